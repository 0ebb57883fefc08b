import Derived.Test.YtdgkpkdinfklaabGreatGST
import Derived.Test.YtdgkpkdinfklaabGreatGSS
import Derived.Test.YtdgkpkdinfklaabGreatGSP
import Derived.Test.YtdgkpkdinfklaabGreatGU
import Derived.Test.YtdgkpkdinfklaabGreatGF
import Derived.Test.YtdgkpkdinfklaabGreatGG
import Derived.Test.YtdgkpkdinfklaabGreatGE
import Derived.Test.YtdgkpkdinfklaabGreatGQ
namespace Go.Proofs.YtdgkpkdinfklaabGreat
open Go.RowKit
theorem Tryz.infoPair:(Tryz.prog.info? 166).map (fun i=>(i.zero,i.size,i.bytes))=some (some (.agg #[.int .i64 0,.int .i64 0]),2,16):=by kernel_rfl
theorem Tryz.infoSearch:(Tryz.prog.info? 145).map (·.size)=some 27:=by kernel_rfl
structure RQ(w:World)(B:Nat)(vs vp:Value)(S:List SP)(V:List Value)(P:List (Nat×Nat)):Prop where
 sp:w.ownsRow B 164 15 vs S.length (spsV S V)
 pr:w.ownsRow B 166 2 vp P.length (prsV P)
 vl:V.length=S.length
 pv:∀(i:Nat) (s:SP) (v:Value),S[i]?=some s→V[i]?=some v→∃a c,v=.slice a s.pls.length c
 row:∀(i:Nat) (s:SP) (v:Value),S[i]?=some s→V[i]?=some v→w.ownsRow B 3 1 v s.pls.length (inV s.pls)
 ne:∀(i:Nat) (s:SP),S[i]?=some s→s.pls≠[]
 dis:∀(i j:Nat) (v v':Value),i≠j→V[i]?=some v→V[j]?=some v'→v.ownBlock≠v'.ownBlock
section
variable {w w' : World} {B sb : Nat} {vs vp : Value} {O : List Value} {S : List SP} {V : List Value} {P : List (Nat × Nat)}
theorem SQ.rq(h:SQ w B sb vs vp O S V P):RQ w B vs vp S V P:=⟨h.sm.sp,h.sm.pr,h.sm.vl,h.sm.pv,h.row,h.ne,h.dis⟩
theorem RQ.sq(h:RQ w B vs vp S V P)(hb:Blk w sb (vs::vp::O) 145):SQ w B sb vs vp O S V P:=⟨⟨hb,h.sp,h.pr,h.vl,h.pv⟩,h.row,h.ne,h.dis⟩
theorem RQ.below(h:RQ w B vs vp S V P)(hb:Below w.heap.size w w'):RQ w' B vs vp S V P:=
 ⟨ownsRow_later h.sp hb,ownsRow_later h.pr hb,h.vl,h.pv,fun i s v hs hv=>ownsRow_later (h.row i s v hs hv) hb,h.ne,h.dis⟩
theorem RQ.turn(h:RQ w B vs vp S V P){k:Nat}{l:List Value}(hk:Blk w k l 145)(hc:Chg [k] w w'):RQ w' B vs vp S V P:=by
 have hg:w.grownBy w' (some k):=⟨hc.os,hc.tape,hc.output,hc.size,fun i hi hne=>hc.block i hi (by simpa using fun e=>hne (by rw[e]))⟩;exact⟨h.sp.kept hg (.inr (row_ne h.sp hk (by decide))),h.pr.kept hg (.inr (row_ne h.pr hk (by decide))),h.vl,h.pv,fun i s v hs hv=>(h.row i s v hs hv).kept hg (.inr (row_ne (h.row i s v hs hv) hk (by decide))),h.ne,h.dis⟩
theorem SQ.pair{w1:World}(h:SQ w B sb vs vp O S V P)(i j:Nat){v':Value}{o:Obj}(hown:w1.ownsRow B 166 2 v' (P.length+1) (prsV P++[.int .i64 (i:Int),.int .i64 (j:Int)]))(hg:(w.alloc o).grownBy w1 vp.ownBlock) :
  SQ (w1.setCell ⟨sb,1,none⟩ v') B sb vs v' O S V (P++[(i,j)]):=by
 have hblk:Blk w1 sb (vs::vp::O) 145:=by
  have h0:Blk (w.alloc o) sb (vs::vp::O) 145:=h.sm.blk.alloc _;show _=_;rw[hg.block sb h0.lt (fun e=>row_ne h.sm.pr h.sm.blk (by decide) e.symm)];exact h0
 have old:∀(e n:Nat) (v:Value) (xs:List Value) (q:Nat),e≠166→e≠145→w.ownsRow B e q v n xs→(w1.setCell ⟨sb,1,none⟩ v').ownsRow B e q v n xs:=by
  intro e n v xs q he hs hr;have h2:=(hr.alloc o).kept hg (rows_apart hr h.sm.pr he);exact ownsRow_setCell_other h2 (row_ne h2 hblk hs) _
 refine⟨⟨hblk.set 1 _,old _ _ _ _ _ (by decide) (by decide) h.sm.sp,?_,h.sm.vl,h.sm.pv⟩,fun i s v hs hv=>old _ _ _ _ _ (by decide) (by decide) (h.row i s v hs hv),h.ne,h.dis⟩;have e:prsV (P++[(i,j)])=prsV P++[.int .i64 (i:Int),.int .i64 (j:Int)]:=by simp[prsV]
 rw[e,List.length_append];exact ownsRow_setCell_other hown (row_ne hown hblk (by decide)) _
end
theorem spots_pls(A:List ST)(i:Nat)(s:SP)(h:(spots A)[i]?=some s):s.pls.length≤A.length:=by
 rw[(spots_ok A).pls i s h,List.length_map];exact List.length_filter_le _ _
theorem accS_le(F:List ST):(accS F).length≤F.length:=List.length_filter_le _ _
def BegOut(F:List ST)(w:World)(e:Ending)(w':World):Prop:=
 ∃vs vp O V,e=.returned (.agg (vs::vp::O).toArray)∧OV (edS F) O∧vs.oneCell'=true∧vp.oneCell'=true∧RQ w' (w.heap.size+1) vs vp (spots (accS F)) V (prQ (spots (accS F)) (spots (accS F)).length)∧Below w.heap.size w w'
theorem row_one{w:World}{B e size n:Nat}{v:Value}{xs:List Value}(h:w.ownsRow B e size v n xs):v.oneCell'=true:=by
 rcases h.2 with⟨rfl,_⟩|⟨g,cap,cur,rfl,_⟩<;>rfl
def Z27:List Value:=.slice none 0 0::.slice none 0 0::Z25
set_option maxHeartbeats 6400000 in
set_option maxRecDepth 100000 in
theorem begun_any(B0:Nat)(am:Option Addr)(cm:Nat)(F:List ST)(w:World)(h:w.ownsRow B0 88 12 (.slice am F.length cm) F.length (stsV F))(hlen:F.length≤1000) :
  Calls Tryz.prog 76 #[.slice am F.length cm] w fun e w'=>BegOut F w e w':=by
 obtain⟨ip,hip,zp0,zp1,zp2⟩:=info_parts Tryz.infoPair;have HM:Hid (w.ownsRow B0 88 12 (.slice am F.length cm) F.length (stsV F)):=h;have HFL:Hid (F.length≤1000):=hlen;clear h;obtain⟨n,hn⟩:∃n,n=F.length:=⟨_,rfl⟩;have HN:Hid (n=F.length):=hn;have HOF:Hid (∀wx,Below w.heap.size w wx→Calls Tryz.prog 34 #[.slice am n cm] wx fun e w'=>OrderOut F e∧Below wx.heap.size wx w'):=fun wx hb=>by
  rw[hn];exact orderOf_any B0 am cm F wx (ownsRow_later HM.out hb) hlen
 rw[←hn]at hlen ⊢;clear hn;obtain⟨w0,hw0⟩:∃w0,w0=(w.alloc (.cells Z27.toArray 145)).alloc (.cells Z27.toArray 145):=⟨_,rfl⟩;have hs0:w0.heap.size=w.heap.size+2:=by rw[hw0];simp
 have HW0:Hid (w0=(w.alloc (.cells Z27.toArray 145)).alloc (.cells Z27.toArray 145)):=hw0;have HB0:Hid (Below w.heap.size w w0):=by show Below _ _ _;rw[hw0];exact((Below.refl _ _).alloc (Nat.le_refl _) _).alloc (by simp) _
 have HR0:Hid (Blk w0 w.heap.size Z27 145):=by show Blk _ _ _ _;rw[hw0];exact Blk.alloc (heap_alloc_new _ _) _
 have HS0:Hid (Blk w0 (w.heap.size+1) Z27 145):=by
  show Blk _ _ _ _;rw[hw0];have e:(w.alloc (.cells Z27.toArray 145)).heap.size=w.heap.size+1:=by simp
  rw[←e];exact heap_alloc_new _ _
 have HST:Hid (∀wr,Below (w.heap.size+1) w0 wr→Below w.heap.size w wr):=fun wr hb=>HB0.out.trans (hb.mono (by omega))
 clear hw0
 go_enter Tryz.func76,Tryz.ntmps76
 go_wp2
 go_loopw [4] (fun iv wr=>∃(k:Nat) (vs:Value) (V:List Value),k≤n∧iv=.int .i64 k∧SQ wr (w.heap.size+1) (w.heap.size+1) vs (.slice none 0 0) Z25 (spots (accS (F.take k))) V []∧Below (w.heap.size+1) w0 wr) (fun iv _=>n-(intOf iv).toNat)
 case atStart=>
  refine⟨0,.slice none 0 0,[],Nat.zero_le _,rfl,?_,?_⟩
  ·show SQ ((w.alloc (.cells Z27.toArray 145)).alloc (.cells Z27.toArray 145)) _ _ _ _ _ _ _ _;rw[←HW0.out];exact⟨⟨HS0.out,World.ownsRow_nil _ _ _ _,World.ownsRow_nil _ _ _ _,rfl,fun i s v hs=>by simp[spots,accS]at hs⟩,fun i s v hs=>by simp[spots,accS]at hs,fun i s hs=>by simp[spots,accS]at hs,fun i j v v' _ hv=>by simp at hv⟩
  ·show Below _ _ ((w.alloc (.cells Z27.toArray 145)).alloc (.cells Z27.toArray 145));rw[←HW0.out];exact Below.refl _ _
 case round=>
  obtain⟨k,vs,V,hk,rfl,hq,hbe⟩:=hrel;have HQ:Hid (SQ wr (w.heap.size+1) (w.heap.size+1) vs (.slice none 0 0) Z25 (spots (accS (F.take k))) V []):=hq;have HB:Hid (Below (w.heap.size+1) w0 wr):=hbe;have hsz:=hbe.size;rw[hs0]at hsz;clear hq hbe
  by_cases hlt:k<n
  ·obtain⟨m,hm⟩:∃m,F[k]?=some m:=⟨F[k]'(by rw[←HN.out];exact hlt),List.getElem?_eq_getElem _⟩;obtain⟨g,cap',hv,_,_⟩:=HM.out.form (by rw[←HN.out];omega);rw[←HN.out]at hv;cases hv;have hm':=ownsRow_later HM.out (HST.out _ HB.out);have q0:=markAt (n:=0) hm' k m hm 0 (by decide) _ rfl rfl;have q1:=markAt (n:=0) hm' k m hm 1 (by decide) _ rfl rfl;have q2:=markAt (n:=0) hm' k m hm 2 (by decide) _ rfl rfl;have q3:=markAt (n:=0) hm' k m hm 3 (by decide) _ rfl rfl;have q4:=markAt (n:=0) hm' k m hm 4 (by decide) _ rfl rfl;have q5:=markAt (n:=0) hm' k m hm 5 (by decide) _ rfl rfl;have q6:=markAt (n:=0) hm' k m hm 6 (by decide) _ rfl rfl;have q7:=markAt (n:=0) hm' k m hm 7 (by decide) _ rfl rfl;have q8:=markAt (n:=0) hm' k m hm 8 (by decide) _ rfl rfl;have q9:=markAt (n:=0) hm' k m hm 9 (by decide) _ rfl rfl;have q10:=markAt (n:=0) hm' k m hm 10 (by decide) _ rfl rfl;have q11:=markAt (n:=0) hm' k m hm 11 (by decide) _ rfl rfl;rw[Nat.add_zero]at q0;have HMM:Hid (F[k]?=some m):=hm;have hsn:=accS_snoc hm;have hkn:(k:Int)<(n:Int):=by omega
   clear hm hm'
   go_wp2_with fail
   refine(isAccess_any m _).mono ?_;rintro e wa ⟨rfl,hba⟩;have HQa:Hid (SQ wa (w.heap.size+1) (w.heap.size+1) vs (.slice none 0 0) Z25 (spots (accS (F.take k))) V []):=HQ.out.below hba;have HBa:Hid (Below (w.heap.size+1) w0 wa):=HB.out.trans (hba.mono (by omega));have hm0:=ownsRow_later HM.out (HST.out _ HBa.out);clear hba q0 q1 q2 q3 q4 q5 q6 q7 q8 q9 q10 q11;cases h12:(m.kind==1||m.kind==2)with
   | false=>
    have HS:Hid (accS (F.take (k+1))=accS (F.take k)):=by
     show _=_;rw[hsn,h12];simp
    clear hsn hm0;go_wp2;exact⟨⟨k+1,vs,V,by omega,by go_num,by rw[HS.out];exact HQa.out,HBa.out⟩,by simp[intOf];omega⟩
   | true=>
    have HS:Hid (spots (accS (F.take (k+1)))=addSp (spots (accS (F.take k))) m):=by
     show _=_;rw[hsn,h12,if_pos rfl,spots_snoc]
    have q0:=markAt (n:=0) hm0 k m HMM.out 0 (by decide) _ rfl rfl;have q1:=markAt (n:=0) hm0 k m HMM.out 1 (by decide) _ rfl rfl;have q2:=markAt (n:=0) hm0 k m HMM.out 2 (by decide) _ rfl rfl;have q3:=markAt (n:=0) hm0 k m HMM.out 3 (by decide) _ rfl rfl;have q4:=markAt (n:=0) hm0 k m HMM.out 4 (by decide) _ rfl rfl;have q5:=markAt (n:=0) hm0 k m HMM.out 5 (by decide) _ rfl rfl;have q6:=markAt (n:=0) hm0 k m HMM.out 6 (by decide) _ rfl rfl;have q7:=markAt (n:=0) hm0 k m HMM.out 7 (by decide) _ rfl rfl;have q8:=markAt (n:=0) hm0 k m HMM.out 8 (by decide) _ rfl rfl;have q9:=markAt (n:=0) hm0 k m HMM.out 9 (by decide) _ rfl rfl;have q10:=markAt (n:=0) hm0 k m HMM.out 10 (by decide) _ rfl rfl;have q11:=markAt (n:=0) hm0 k m HMM.out 11 (by decide) _ rfl rfl;rw[Nat.add_zero]at q0;have hl1:(spots (accS (F.take k))).length≤1000:=by
     have h1:=spots_len (accS (F.take k));have h2:=accS_le (F.take k);have h3:(F.take k).length≤k:=List.length_take_le _ _;omega
    have hl2:∀(i:Nat) (s:SP),(spots (accS (F.take k)))[i]?=some s→s.pls.length≤1000:=fun i s hs=>by
     have h1:=spots_pls _ i s hs;have h2:=accS_le (F.take k);have h3:(F.take k).length≤k:=List.length_take_le _ _;omega
    clear hsn hm0 h12
    go_wp2_with fail
    refine(spotAdd_any m _ HQa.out (Nat.le_refl _) hl1 hl2).mono ?_;rintro e wb ⟨rfl,⟨vs',V',hqb⟩,hbb⟩;have HQb:Hid (SQ wb (w.heap.size+1) (w.heap.size+1) vs' (.slice none 0 0) Z25 (spots (accS (F.take (k+1)))) V' []):=by
     show SQ _ _ _ _ _ _ _ _ _;rw[HS.out];exact hqb
    have HBb:Hid (Below (w.heap.size+1) w0 wb):=HBa.out.trans hbb;clear hqb hbb q0 q1 q2 q3 q4 q5 q6 q7 q8 q9 q10 q11 hl2;go_wp2;exact⟨⟨k+1,vs',V',by omega,by go_num,HQb.out,HBb.out⟩,by simp[intOf];omega⟩
  ·have hkn:F.take k=F:=List.take_of_length_le (by rw[←HN.out];omega);rw[hkn]at HQ;clear hkn;obtain⟨S,hS⟩:∃S,S=spots (accS F):=⟨_,rfl⟩;have HSS:Hid (S=spots (accS F)):=hS;have hSl:S.length≤1000:=by
    have h1:=spots_len (accS F);have h2:=accS_le F;have:=HFL.out;rw[hS];omega
   rw[←hS]at HQ;clear hS;obtain⟨nS,hnS⟩:∃nS,nS=S.length:=⟨_,rfl⟩;have HNS:Hid (nS=S.length):=hnS;obtain⟨av,cv,hvs⟩:=row_slice HQ.out.sm.sp;rw[←hnS]at hvs hSl;have HVS:Hid (vs=.slice av nS cv):=hvs;have HPL:Hid (∀i,(prQ S i).length≤i*1000):=prQ_len S (by rw[←hnS];exact hSl);have HC0:Hid (∀W vp P,SQ W (w.heap.size+1) (w.heap.size+1) vs vp Z25 S V P→W.cell? ⟨w.heap.size+1,0,none⟩=some (.slice av nS cv)):=fun W vp P hW=>by
    have:=hW.sm.c0;rw[HVS.out]at this;exact this
   have c0:=HC0.out _ _ _ HQ.out;clear hnS hvs;go_wp2
   go_loopw [5] (fun iv wr=>∃(i:Nat) (vp:Value),i≤nS∧iv=.int .i64 i∧SQ wr (w.heap.size+1) (w.heap.size+1) vs vp Z25 S V (prQ S i)∧Below (w.heap.size+1) w0 wr) (fun iv _=>nS-(intOf iv).toNat)
   case atStart=>exact⟨0,_,Nat.zero_le _,rfl,HQ.out,HB.out⟩
   case round=>
    obtain⟨i,vp,hi,rfl,hq,hbe⟩:=hrel;have HQ2:Hid (SQ wr (w.heap.size+1) (w.heap.size+1) vs vp Z25 S V (prQ S i)):=hq;have HB2:Hid (Below (w.heap.size+1) w0 wr):=hbe;have c0:=HC0.out _ _ _ hq;clear hq hbe
    by_cases hin:i<nS
    ·obtain⟨wa,rfl⟩:∃wa,wa=wr:=⟨_,rfl⟩;have hid:decide ((i:Int)<(nS:Int))=true:=by simp;omega
     have hpi:=HPL.out i;go_wp2
     go_loopw [6] (fun jv wr=>∃(c:Nat) (vp:Value),i+1+c≤nS∧jv=.int .i64 (i+1+c:Nat)∧SQ wr (w.heap.size+1) (w.heap.size+1) vs vp Z25 S V (prQ S i++prJ S i c)∧Below (w.heap.size+1) w0 wr) (fun jv _=>nS-(intOf jv).toNat)
     case atStart=>exact⟨0,vp,by omega,by go_num,by simpa[prJ]using HQ2.out,HB2.out⟩
     case round=>
      obtain⟨c,vp,hc,rfl,hq,hbe⟩:=hrel;obtain⟨j,hj⟩:∃j,j=i+1+c:=⟨_,rfl⟩;rw[←hj]at hc ⊢;have HJ:Hid (j=i+1+c):=hj;have hij:i<j:=by omega
      have hpc:=prJ_len S i c;have hcj:c≤j:=by omega
      clear hj;have HQ3:Hid (SQ wr (w.heap.size+1) (w.heap.size+1) vs vp Z25 S V (prQ S i++prJ S i c)):=hq;have HB3:Hid (Below (w.heap.size+1) w0 wr):=hbe;have hsz3:=hbe.size;rw[hs0]at hsz3;have c0:=HC0.out _ _ _ hq;clear hq hbe
      by_cases hjn:j<nS
      ·obtain⟨a,hsa⟩:∃a,S[i]?=some a:=⟨_,List.getElem?_eq_getElem (by rw[←HNS.out];exact hin)⟩;obtain⟨b,hsb⟩:∃b,S[j]?=some b:=⟨_,List.getElem?_eq_getElem (by rw[←HNS.out];exact hjn)⟩;obtain⟨g,cp,v,hv,_,_⟩:=HQ3.out.sm.spot hsa;have hav:av=some ⟨g,0,none⟩:=by rw[HVS.out]at hv;cases hv;rfl
       subst hav;have HOP:Hid (opSP S i (i+1+c)=opMK (mkAcc a.acc) (mkAcc b.acc)):=by
        show _=_;rw[←HJ.out,opSP,hsa,hsb]
       obtain⟨R,hR⟩:∃R,R=opMK (mkAcc a.acc) (mkAcc b.acc):=⟨_,rfl⟩;have HPN:Hid (prQ S i++prJ S i (c+1)=(prQ S i++prJ S i c)++(if R then [(i,j)]else [])):=by
        show _=_;rw[prJ,HOP.out,←hR,←HJ.out,List.append_assoc]
       have HOA:Hid (∀wx,Calls Tryz.prog 66 #[.agg #[.int .i64 a.acc.kind,.int .i64 a.acc.place,.int .i64 a.acc.thread,.int .i64 a.acc.num,.bool a.acc.mend,.int .i64 a.acc.nx,.int .i64 a.acc.el,.bool a.acc.h0,.bool a.acc.h1,.bool a.acc.h2,.bool a.acc.h3,.bool a.acc.h4],.agg #[.int .i64 b.acc.kind,.int .i64 b.acc.place,.int .i64 b.acc.thread,.int .i64 b.acc.num,.bool b.acc.mend,.int .i64 b.acc.nx,.int .i64 b.acc.el,.bool b.acc.h0,.bool b.acc.h1,.bool b.acc.h2,.bool b.acc.h3,.bool b.acc.h4]] wx fun e w'=>e=.returned (.bool R)∧Below wx.heap.size wx w'):=fun wx=>by rw[hR];exact open_any a.acc b.acc wx
       have HKEEP:Hid (∀W,Below wr.heap.size wr W→W.cell? ⟨w.heap.size+1,0,none⟩=some (.slice (some ⟨g,0,none⟩) nS cv)∧W.cell? ⟨g,i*15,none⟩=some (.int .i64 a.acc.kind)∧W.cell? ⟨g,i*15+1,none⟩=some (.int .i64 a.acc.place)∧W.cell? ⟨g,i*15+2,none⟩=some (.int .i64 a.acc.thread)∧W.cell? ⟨g,i*15+3,none⟩=some (.int .i64 a.acc.num)∧W.cell? ⟨g,i*15+4,none⟩=some (.bool a.acc.mend)∧W.cell? ⟨g,i*15+5,none⟩=some (.int .i64 a.acc.nx)∧W.cell? ⟨g,i*15+6,none⟩=some (.int .i64 a.acc.el)∧W.cell? ⟨g,i*15+7,none⟩=some (.bool a.acc.h0)∧W.cell? ⟨g,i*15+8,none⟩=some (.bool a.acc.h1)∧W.cell? ⟨g,i*15+9,none⟩=some (.bool a.acc.h2)∧W.cell? ⟨g,i*15+10,none⟩=some (.bool a.acc.h3)∧W.cell? ⟨g,i*15+11,none⟩=some (.bool a.acc.h4)∧W.cell? ⟨g,j*15,none⟩=some (.int .i64 b.acc.kind)∧W.cell? ⟨g,j*15+1,none⟩=some (.int .i64 b.acc.place)∧W.cell? ⟨g,j*15+2,none⟩=some (.int .i64 b.acc.thread)∧W.cell? ⟨g,j*15+3,none⟩=some (.int .i64 b.acc.num)∧W.cell? ⟨g,j*15+4,none⟩=some (.bool b.acc.mend)∧W.cell? ⟨g,j*15+5,none⟩=some (.int .i64 b.acc.nx)∧W.cell? ⟨g,j*15+6,none⟩=some (.int .i64 b.acc.el)∧W.cell? ⟨g,j*15+7,none⟩=some (.bool b.acc.h0)∧W.cell? ⟨g,j*15+8,none⟩=some (.bool b.acc.h1)∧W.cell? ⟨g,j*15+9,none⟩=some (.bool b.acc.h2)∧W.cell? ⟨g,j*15+10,none⟩=some (.bool b.acc.h3)∧W.cell? ⟨g,j*15+11,none⟩=some (.bool b.acc.h4)):=by
        intro W hW;have hW2:=HQ3.out.below hW;obtain⟨g2,c2,v2,hv2,_,hc2⟩:=hW2.sm.spot hsa;have e2:g2=g:=by rw[HVS.out]at hv2;cases hv2;rfl
        subst e2;obtain⟨g3,c3,v3,hv3,_,hc3⟩:=hW2.sm.spot hsb;have e3:g3=g2:=by rw[HVS.out]at hv3;cases hv3;rfl
        subst e3;exact⟨HC0.out W _ _ hW2,hc2 0 _ (by decide) rfl,hc2 1 _ (by decide) rfl,hc2 2 _ (by decide) rfl,hc2 3 _ (by decide) rfl,hc2 4 _ (by decide) rfl,hc2 5 _ (by decide) rfl,hc2 6 _ (by decide) rfl,hc2 7 _ (by decide) rfl,hc2 8 _ (by decide) rfl,hc2 9 _ (by decide) rfl,hc2 10 _ (by decide) rfl,hc2 11 _ (by decide) rfl,hc3 0 _ (by decide) rfl,hc3 1 _ (by decide) rfl,hc3 2 _ (by decide) rfl,hc3 3 _ (by decide) rfl,hc3 4 _ (by decide) rfl,hc3 5 _ (by decide) rfl,hc3 6 _ (by decide) rfl,hc3 7 _ (by decide) rfl,hc3 8 _ (by decide) rfl,hc3 9 _ (by decide) rfl,hc3 10 _ (by decide) rfl,hc3 11 _ (by decide) rfl⟩
       have hii:(i:Int)<(nS:Int):=by omega
       have hjj:(j:Int)<(nS:Int):=by omega
       have hjd:decide ((j:Int)<(nS:Int))=true:=by simp;omega
       clear hsa hsb hv HOP hR
       go_wp2_with fail
       go_region_held (fun W=>W.cell? ⟨w.heap.size+1,0,none⟩=some (.slice (some ⟨g,0,none⟩) nS cv)∧W.cell? ⟨g,i*15,none⟩=some (.int .i64 a.acc.kind)∧W.cell? ⟨g,i*15+1,none⟩=some (.int .i64 a.acc.place)∧W.cell? ⟨g,i*15+2,none⟩=some (.int .i64 a.acc.thread)∧W.cell? ⟨g,i*15+3,none⟩=some (.int .i64 a.acc.num)∧W.cell? ⟨g,i*15+4,none⟩=some (.bool a.acc.mend)∧W.cell? ⟨g,i*15+5,none⟩=some (.int .i64 a.acc.nx)∧W.cell? ⟨g,i*15+6,none⟩=some (.int .i64 a.acc.el)∧W.cell? ⟨g,i*15+7,none⟩=some (.bool a.acc.h0)∧W.cell? ⟨g,i*15+8,none⟩=some (.bool a.acc.h1)∧W.cell? ⟨g,i*15+9,none⟩=some (.bool a.acc.h2)∧W.cell? ⟨g,i*15+10,none⟩=some (.bool a.acc.h3)∧W.cell? ⟨g,i*15+11,none⟩=some (.bool a.acc.h4)∧W.cell? ⟨g,j*15,none⟩=some (.int .i64 b.acc.kind)∧W.cell? ⟨g,j*15+1,none⟩=some (.int .i64 b.acc.place)∧W.cell? ⟨g,j*15+2,none⟩=some (.int .i64 b.acc.thread)∧W.cell? ⟨g,j*15+3,none⟩=some (.int .i64 b.acc.num)∧W.cell? ⟨g,j*15+4,none⟩=some (.bool b.acc.mend)∧W.cell? ⟨g,j*15+5,none⟩=some (.int .i64 b.acc.nx)∧W.cell? ⟨g,j*15+6,none⟩=some (.int .i64 b.acc.el)∧W.cell? ⟨g,j*15+7,none⟩=some (.bool b.acc.h0)∧W.cell? ⟨g,j*15+8,none⟩=some (.bool b.acc.h1)∧W.cell? ⟨g,j*15+9,none⟩=some (.bool b.acc.h2)∧W.cell? ⟨g,j*15+10,none⟩=some (.bool b.acc.h3)∧W.cell? ⟨g,j*15+11,none⟩=some (.bool b.acc.h4)) (first|exact HKEEP.out _ (below_drewN' _ _ 1)|exact HKEEP.out _ hbw) ((
        go_at_call 66
        refine(HOA.out _).mono ?_;rintro e w1 ⟨rfl,hb1⟩
        have hbw:Below wr.heap.size wr w1:=(below_drewN' _ _ 1).trans hb1))
       all_goals
        have HQ4:Hid (SQ w1 (w.heap.size+1) (w.heap.size+1) vs vp Z25 S V (prQ S i++prJ S i c)):=HQ3.out.below hbw;have HB4:Hid (Below (w.heap.size+1) w0 w1):=HB3.out.trans (hbw.mono (by omega));clear hb1 hbw c0 HKEEP;obtain⟨L,hL⟩:∃L,L=prQ S i++prJ S i c:=⟨_,rfl⟩;rw[←hL]at HQ4 HPN;have hLl:L.length≤2000000:=by rw[hL,List.length_append];omega
        clear hL;cases R with
        | false=>
         have HPN2:Hid (prQ S i++prJ S i (c+1)=L):=by
          show _=_;rw[HPN.out];simp
         go_wp2;have hjj2:=HJ.out;exact⟨⟨c+1,vp,by omega,by rw[hjj2];go_num,by rw[HPN2.out];exact HQ4.out,HB4.out⟩,by simp[intOf];omega⟩
        | true=>
         have HPN2:Hid (prQ S i++prJ S i (c+1)=L++[(i,j)]):=by
          show _=_;rw[HPN.out];simp
         have c1:=HQ4.out.sm.c1;have hb4:=HB4.out.size;rw[hs0]at hb4;have hsb4:=HQ4.out.sm.blk.lt;have nvp:some (w.heap.size+1)≠vp.ownBlock:=fun e=>row_ne HQ4.out.sm.pr HQ4.out.sm.blk (by decide) e.symm
         go_wp2_with (at_builtin;refine wpList_append_own _ rfl (.tmp 55) (.tmp 59) 143 rfl (w.heap.size+1) 166 ip _ 2 16 Tryz.underlying143 hip zp0 zp1 zp2 rfl (by decide) vp L.length (prsV L) rfl (HQ4.out.sm.pr.alloc _) ⟨w1.heap.size,0,none⟩ 1 1 [.int .i64 (i:Int),.int .i64 (j:Int)] rfl rfl (World.news_of_block (heap_alloc_new _ _)) ?h1 ?h63 ?hby ?hbase ?next)
         case h1=>exact⟨rfl,rfl⟩
         case h63=>unfold maxLen;omega
         case hby=>omega
         case hbase=>omega
         case next=>
          intro v2 w2 hown2 hgrow2 _;obtain⟨g2,cap2,hv2,_,_⟩:=hown2.form (by omega);subst hv2;have k1:w2.cell? ⟨w.heap.size+1,1,none⟩=some vp:=(hgrow2.cell_far ⟨w.heap.size+1,1,none⟩ (by simp;omega) nvp).trans ((World.cell?_alloc_past _ _ _ hsb4).trans c1);have f1:w2.frozen? ⟨w.heap.size+1,1,none⟩=false:=(hgrow2.frozen_far ⟨w.heap.size+1,1,none⟩ (by simp;omega) nvp).trans ((World.frozen?_alloc_past _ _ _ hsb4).trans (HQ4.out.sm.blk.fz 1));have HQ5:Hid (SQ (w2.setCell ⟨w.heap.size+1,1,none⟩ (.slice (some ⟨g2,0,none⟩) (L.length+1) cap2)) (w.heap.size+1) (w.heap.size+1) vs (.slice (some ⟨g2,0,none⟩) (L.length+1) cap2) Z25 S V (prQ S i++prJ S i (c+1))):=by
           show SQ _ _ _ _ _ _ _ _ _;rw[HPN2.out];exact HQ4.out.pair i j hown2 hgrow2
          have HB5:Hid (Below (w.heap.size+1) w0 (w2.setCell ⟨w.heap.size+1,1,none⟩ (.slice (some ⟨g2,0,none⟩) (L.length+1) cap2))):=((HB4.out.alloc (by omega) _).grown hgrow2 (by simp;omega) (fun q hq=>(HQ4.out.sm.pr.lt q hq).1)).setCell (by simp) _;clear hown2 hgrow2;go_wp2;have hjj2:=HJ.out;exact⟨⟨c+1,_,by omega,by rw[hjj2];go_num,HQ5.out,HB5.out⟩,by simp[intOf];omega⟩
      ·have hcn:c=S.length-(i+1):=by rw[←HNS.out];have:=HJ.out;omega
       have HQ4:Hid (SQ wr (w.heap.size+1) (w.heap.size+1) vs vp Z25 S V (prQ S (i+1))):=by
        show SQ _ _ _ _ _ _ _ _ _;rw[prQ,←hcn];exact HQ3.out
       have hjd:decide ((j:Int)<(nS:Int))=false:=by simp;omega
       clear hcn;go_wp2;exact⟨⟨i+1,vp,by omega,by go_num,HQ4.out,HB3.out⟩,by simp[intOf];omega⟩
    ·have hiS:i=S.length:=by rw[←HNS.out];omega
     have HQ3:Hid (RQ wr (w.heap.size+1) vs vp S V (prQ S S.length)):=by
      have:=HQ2.out.rq;rw[hiS]at this;exact this
     have HBK:Hid (Blk wr (w.heap.size+1) (vs::vp::Z25) 145):=HQ2.out.sm.blk;have hid:decide ((i:Int)<(nS:Int))=false:=by simp;omega
     clear hiS
     go_wp2_with fail
     refine(HOF.out wr (HST.out _ HB2.out)).mono ?_;rintro e w1 ⟨⟨l,rfl,hov⟩,hb1⟩;have HOV:Hid (OV (edS F) l):=hov;have hXl:l.length=25:=hov.1;have hX1:l.toArray.all (·.oneCell')=true:=hov.one;have HQ4:Hid (RQ w1 (w.heap.size+1) vs vp S V (prQ S S.length)):=HQ3.out.below hb1;have HBK1:Hid (Blk w1 (w.heap.size+1) (vs::vp::Z25) 145):=HBK.out.chg (chg_of_below hb1 []) (by simp);have hsz1:=HB2.out.size;rw[hs0]at hsz1;have HB3:Hid (Below (w.heap.size+1) w0 w1):=HB2.out.trans (hb1.mono (by omega));have HRC:Hid (Blk w1 w.heap.size Z27 145):=by
      show _=_;rw[HB3.out.block w.heap.size (by omega)];exact HR0.out
     have THR:w1.there (w.heap.size+1) 2 l.toArray.size:=by
      have e25:l.toArray.size=25:=by simp[hXl]
      rw[e25];intro q hq;have:=HBK1.out.there (2+q) (by simp[Z25];omega);rw[Nat.zero_add]at this;exact this
     have W2b:Hid (Blk (w1.setCells (w.heap.size+1) 2 l) (w.heap.size+1) (vs::vp::l) 145):=by
      have:=setCells_blk l (vs::vp::Z25) 2 HBK1.out (by rw[hXl];rfl);show Blk _ _ _ _;simpa using this
     have W2c:Hid (Chg [w.heap.size+1] w1 (w1.setCells (w.heap.size+1) 2 l)):=setCells_chg w1 (w.heap.size+1) l 2 w1 (Chg.refl _ _);obtain⟨w2,hw2⟩:∃w2,w2=w1.setCells (w.heap.size+1) 2 l:=⟨_,rfl⟩;have HW2:Hid (w2=w1.setCells (w.heap.size+1) 2 l):=hw2;rw[←hw2]at W2b W2c;have HRC2:Hid (Blk w2 w.heap.size Z27 145):=HRC.out.chg W2c.out (by simp);obtain⟨X,hX⟩:∃X,X=vs::vp::l:=⟨_,rfl⟩;have HX:Hid (X=vs::vp::l):=hX;have hXX:X.length=27:=by rw[hX];simp[hXl]
     have ov:vs.oneCell'=true:=row_one HQ4.out.sp;have op:vp.oneCell'=true:=row_one HQ4.out.pr;have hXo:X.toArray.all (·.oneCell')=true:=by
      refine all_oneCell_toArray fun v hv=>?_
      rw[hX]at hv;rcases List.mem_cons.1 hv with rfl|hv
      ·exact ov
      ·rcases List.mem_cons.1 hv with rfl|hv
       ·exact op
       ·have:=Array.all_eq_true_iff_forall_mem.1 hX1 v (by simpa using hv);exact this
     have W3b:Hid (Blk (w2.setCells w.heap.size 0 X) w.heap.size X 145):=by
      have:=setCells_blk X Z27 0 HRC2.out (by rw[hXX];rfl);show Blk _ _ _ _;simpa using this
     have W3c:Hid (Chg [w.heap.size] w2 (w2.setCells w.heap.size 0 X)):=setCells_chg w2 w.heap.size X 0 w2 (Chg.refl _ _);have HFQ:Hid (RQ (w2.setCells w.heap.size 0 X) (w.heap.size+1) vs vp S V (prQ S S.length)):=(HQ4.out.turn HBK1.out W2c.out).turn HRC2.out W3c.out;have HFB:Hid (Below w.heap.size w (w2.setCells w.heap.size 0 X)):=by
      have h1:Below w.heap.size w w1:=HST.out _ HB3.out;have hs1:=h1.size;have hs2:=W2c.out.size;exact(h1.trans (W2c.out.below (by simp) (by omega))).trans (W3c.out.below (by simp) (by omega))
     rw[←hX]at W2b;have THR3:w2.there w.heap.size 0 X.toArray.size:=by
      have:=HRC2.out.there;rw[show Z27.length=X.toArray.size by rw[List.size_toArray,hXX];rfl]at this;exact this
     clear hb1 hw2 hov hX
     go_wp2_with (first
      | (refine wpList_store_mid (by rfl) 78 (.tmp 64) (.tmp 63) (by rfl) (w.heap.size+1) 2 l.toArray (by rfl) (by rfl) THR (by rw[List.size_toArray,hXl];exact Tryz.infoOrder) hX1 ?_;rw[show l.toArray.toList=l from rfl,←HW2.out])
      | refine wpList_load_mid (by rfl) 145 (.tmp 3) (by rfl) (w.heap.size+1) 0 (by rfl) X _ W2b.out.range Tryz.underlying145 (by rfl) (by rw[hXX];exact Tryz.infoSearch) ?_
      | refine wpList_store_mid (by rfl) 145 (.tmp 2) (.tmp 65) (by rfl) w.heap.size 0 X.toArray (by rfl) (by rfl) THR3 (by rw[List.size_toArray,hXX];exact Tryz.infoSearch) hXo ?_)
     (try simp only[Exit.inBlock,Exit.then])
     refine bodyPost_ret (v:=.agg X.toArray) ?_ rfl ⟨vs,vp,l,V,by rw[HX.out],HOV.out,ov,op,by rw[←HSS.out];exact HFQ.out,HFB.out⟩;rw[results_cell rfl];have:=run_loadVar_mid (P:=Tryz.prog) _ w.heap.size 0 145 X _ W3b.out.range Tryz.underlying145 (by rfl) (by rw[hXX];exact Tryz.infoSearch);show((asAddr (.pointer (some ⟨w.heap.size,0,none⟩))).run Tryz.prog _).andThen (fun a w₁=>(loadVar 145 a).run Tryz.prog w₁)=_;simp[asAddr,Result.andThen,this]
set_option maxHeartbeats 800000 in
theorem hasMended_any(B:Nat)(am:Option Addr)(cm:Nat)(F:List ST)(w:World)(h:w.ownsRow B 88 12 (.slice am F.length cm) F.length (stsV F))(hlen:F.length≤1000) :
  Calls Tryz.prog 54 #[.slice am F.length cm] w fun e w'=>e=.returned (.bool (F.any fun s=>s.mend))∧w'=w:=by
 have HM:Hid (w.ownsRow B 88 12 (.slice am F.length cm) F.length (stsV F)):=h;clear h;obtain⟨n,hn⟩:∃n,n=F.length:=⟨_,rfl⟩;have HN:Hid (n=F.length):=hn;rw[←hn]at hlen ⊢;clear hn;obtain⟨R,hR⟩:∃R,R=F.any fun s=>s.mend:=⟨_,rfl⟩
 have HR:Hid (R=F.any fun s=>s.mend):=hR;rw[←hR];clear hR
 go_enter Tryz.func54,Tryz.ntmps54
 go_wp2
 go_loop [3] (fun iv=>∃k:Nat,k≤n∧iv=.int .i64 k∧∀j s,j<k→F[j]?=some s→s.mend=false) (fun iv=>n-(intOf iv).toNat)
 case atStart=>exact⟨0,Nat.zero_le _,rfl,fun j s hj=>by omega⟩
 case round=>
  obtain⟨k,hk,rfl,hno⟩:=hrel;have HNO:Hid (∀j s,j<k→F[j]?=some s→s.mend=false):=hno;clear hno
  by_cases hlt:k<n
  ·obtain⟨m,hm⟩:∃m,F[k]?=some m:=⟨F[k]'(by rw[←HN.out];exact hlt),List.getElem?_eq_getElem _⟩;obtain⟨g,cap',hv,_,_⟩:=HM.out.form (by rw[←HN.out];omega);have hv':=hv;rw[←HN.out]at hv;cases hv;have q4:=markAt (n:=0) HM.out k m hm 4 (by decide) _ rfl rfl;have hkn:(k:Int)<(n:Int):=by omega
   clear hv';cases hme:m.mend with
   | true=>
    have HT:Hid (R=true):=by
     show _=_;rw[HR.out,List.any_eq_true];exact⟨m,List.mem_of_getElem? hm,hme⟩
    rw[hme]at q4;clear hm hme;go_wp2;go_ret;rw[HT.out];exact⟨rfl,rfl⟩
   | false=>
    have HN2:Hid (∀j s,j<k+1→F[j]?=some s→s.mend=false):=fun j s hj hs=>by
     by_cases e:j=k
     ·subst e;rw[hm]at hs;cases hs;exact hme
     ·exact HNO.out j s (by omega) hs
    rw[hme]at q4;clear hm hme;go_wp2
    go_round
    case rel=>exact⟨k+1,by omega,by go_num,HN2.out⟩
    case measure=>simp[intOf];omega
  ·have HF:Hid (R=false):=by
    show _=_;rw[HR.out,List.any_eq_false];intro s hs;obtain⟨j,hj⟩:=List.getElem?_of_mem hs;have hjl:=(List.getElem?_eq_some_iff.1 hj).1;rw[HNO.out j s (by rw[←HN.out]at hjl;omega) hj];decide
   go_wp2;go_ret;rw[HF.out];exact⟨rfl,rfl⟩
def rgV(R:List (Int×Int)):List Value:=R.flatMap fun r=>[.int .i64 r.1,.int .i64 r.2]
theorem rgV_get:∀(R:List (Int×Int)) (i:Nat) (r:Int×Int),R[i]?=some r→(rgV R)[i*2]?=some (.int .i64 r.1)∧(rgV R)[i*2+1]?=some (.int .i64 r.2):=by
 intro R
 induction R with
 | nil=>intro i r h;simp at h
 | cons q R ih=>
  intro i r h;have e:rgV (q::R)=.int .i64 q.1::.int .i64 q.2::rgV R:=rfl;rw[e];cases i with
  | zero=>simp at h;subst h;exact⟨rfl,rfl⟩
  | succ i=>
   have:=ih i r (by simpa using h);rw[show(i+1)*2=i*2+1+1 by omega];exact this
theorem lk_byte{x:Int}(h0:0≤x)(h5:x<5):((UInt8.ofNat (65+x.toNat)).toNat:Int)=65+x:=by
 have:x=0∨x=1∨x=2∨x=3∨x=4:=by omega
 rcases this with rfl|rfl|rfl|rfl|rfl<;>rfl
set_option maxHeartbeats 3200000 in
set_option maxRecDepth 100000 in
theorem laid_any(p:ByteArray)(B:Nat)(ar:Option Addr)(cr:Nat)(R:List (Int×Int))(w:World)(h:w.ownsRow B 149 2 (.slice ar R.length cr) R.length (rgV R))(hs:p.size≤240)(hlen:R.length≤1000)(hlk:∀r∈R,0≤r.2∧r.2<5)(hpl:∀r∈R,0≤r.1∧r.1<1000)(o:ByteArray)(ho:o.data.toList=layP R 0 p.data.toList) :
  Calls Tryz.prog 56 #[.string p,.slice ar R.length cr] w fun e w'=>e=.returned (.string o)∧Below w.heap.size w w':=by
 obtain⟨i0,hi0,hz0,hz1,hz2⟩:=info_parts Tryz.infoByte;have HM:Hid (w.ownsRow B 149 2 (.slice ar R.length cr) R.length (rgV R)):=h;have HLK:Hid (∀r∈R,0≤r.2∧r.2<5):=hlk;have HPL:Hid (∀r∈R,0≤r.1∧r.1<1000):=hpl;have HOO:Hid (o.data.toList=layP R 0 p.data.toList):=ho;clear h hlk hpl ho;obtain⟨n,hn⟩:∃n,n=R.length:=⟨_,rfl⟩;have HN:Hid (n=R.length):=hn;have hRl:R.length≤1000:=hlen;rw[←hn]at hlen ⊢;have HLL:Hid (∀a,(layN R p.data.toList a).length≤3001*a):=layN_len R p.data.toList hRl;clear hn hRl
 go_enter Tryz.func56,Tryz.ntmps56
 go_wp2
 go_loopw [5,6] (fun v iv wr=>∃a:Nat,a≤p.size∧iv=.int .i64 a∧wr.ownsRow w.heap.size 5 1 v (layN R p.data.toList a).length (byV (layN R p.data.toList a))∧Below w.heap.size w wr) (fun _ iv _=>p.size-(intOf iv).toNat)
 case atStart=>exact⟨0,Nat.zero_le _,rfl,World.ownsRow_nil _ _ _ _,Below.refl _ _⟩
 case round=>
  obtain⟨a,ha,rfl,hown,hbe⟩:=hrel;have HO:Hid (wr.ownsRow w.heap.size 5 1 u5 (layN R p.data.toList a).length (byV (layN R p.data.toList a))):=hown;have HB:Hid (Below w.heap.size w wr):=hbe;have hLa:=HLL.out a;clear hown hbe
  by_cases hlt:a<p.size
  ·obtain⟨wa,rfl⟩:∃wa,wa=wr:=⟨_,rfl⟩;have had:decide ((a:Int)<(p.size:Int))=true:=by simp;omega
   obtain⟨L,hL⟩:∃L,L=layN R p.data.toList a:=⟨_,rfl⟩;have HL:Hid (L=layN R p.data.toList a):=hL;rw[←hL]at HO hLa;clear hL;go_wp2
   go_loopw [5,7] (fun v iv wr=>∃i:Nat,i≤n∧iv=.int .i64 i∧wr.ownsRow w.heap.size 5 1 v (L++preR (R.take i) a).length (byV (L++preR (R.take i) a))∧Below w.heap.size w wr) (fun _ iv _=>n-(intOf iv).toNat)
   case atStart=>exact⟨0,Nat.zero_le _,rfl,by simpa[preR]using HO.out,HB.out⟩
   case round=>
    obtain⟨i,hi,rfl,hown,hbe⟩:=hrel;have HO2:Hid (wr.ownsRow w.heap.size 5 1 u5 (L++preR (R.take i) a).length (byV (L++preR (R.take i) a))):=hown;have HB2:Hid (Below w.heap.size w wr):=hbe;have hsz:=hbe.size;have hM2:=ownsRow_later HM.out hbe;have hpre:=preR_len (R.take i) a;have htl:(R.take i).length≤i:=List.length_take_le _ _;clear hown hbe
    by_cases hin:i<n
    ·obtain⟨r,hr⟩:∃r,R[i]?=some r:=⟨R[i]'(by rw[←HN.out];exact hin),List.getElem?_eq_getElem _⟩;obtain⟨g,cap',hv,_,_⟩:=HM.out.form (by rw[←HN.out];omega);rw[←HN.out]at hv;cases hv;obtain⟨e1,e2⟩:=rgV_get R i r hr;have q0:wr.cell? ⟨g,i*2,none⟩=some (.int .i64 r.1):=(hM2.cellAt (i*2) (by rw[←HN.out];omega)).trans e1;have q1:wr.cell? ⟨g,i*2+1,none⟩=some (.int .i64 r.2):=(hM2.cellAt (i*2+1) (by rw[←HN.out];omega)).trans e2;obtain⟨l0,l5⟩:=HLK.out r (List.mem_of_getElem? hr);have HSN:Hid (preR (R.take (i+1)) a=preR (R.take i) a++(if r.1==(a:Int)then [60,UInt8.ofNat (65+r.2.toNat)]else [])):=preR_snoc hr a;have HLB:Hid (((UInt8.ofNat (65+r.2.toNat)).toNat:Int)=65+r.2):=lk_byte l0 l5;have hii:(i:Int)<(n:Int):=by omega
     have hll:(L++preR (R.take i) a).length≤1000000:=by rw[List.length_append];omega
     obtain⟨M,hMM⟩:∃M,M=L++preR (R.take i) a:=⟨_,rfl⟩;have HMM:Hid (M=L++preR (R.take i) a):=hMM;rw[←hMM]at HO2 hll;clear hr hM2 e1 e2 hMM hpre htl;cases hc:(r.1==(a:Int))with
     | true=>
      have HX:Hid (L++preR (R.take (i+1)) a=M++[60,UInt8.ofNat (65+r.2.toNat)]):=by
       show _=_;rw[HSN.out,hc,if_pos rfl,HMM.out,List.append_assoc]
      have HU:Hid (byV [60,UInt8.ofNat (65+r.2.toNat)]=[.int .u8 60,.int .u8 (65+r.2)]):=by
       show _=_;simp only[byV,List.map_cons,List.map_nil];rw[HLB.out];rfl
      go_wp2_with (at_builtin;refine wpList_append_own _ rfl (.tmp 28) (.tmp 36) 91 rfl w.heap.size 5 i0 _ 1 1 Tryz.underlying91 hi0 hz0 hz1 hz2 rfl (by decide) u5 M.length (byV M) rfl (HO2.out.alloc _) ⟨wr.heap.size,0,none⟩ 2 2 [.int .u8 60,.int .u8 (65+r.2)] rfl rfl ?hnews ?h1 ?h63 ?hby ?hbase ?next)
      case hnews=>exact World.news_of_block (heap_alloc_new _ _)
      case h1=>intro u hu;simp at hu;rcases hu with rfl|rfl<;>rfl
      case h63=>unfold maxLen;omega
      case hby=>omega
      case hbase=>simp;omega
      case next=>
       intro v' w1 hown1 hgrow _;have B3:Hid (Below w.heap.size w w1):=(HB2.out.alloc (by omega) _).grown hgrow (by simp;omega) (fun q hq=>(HO2.out.lt q hq).1);have HO3:Hid (w1.ownsRow w.heap.size 5 1 v' (L++preR (R.take (i+1)) a).length (byV (L++preR (R.take (i+1)) a))):=by
        show World.ownsRow _ _ _ _ _ _ _;rw[HX.out,show byV (M++[60,UInt8.ofNat (65+r.2.toNat)])=byV M++byV [60,UInt8.ofNat (65+r.2.toNat)] by simp only[byV,List.map_append],HU.out,List.length_append];exact hown1
       clear hown1 hgrow;go_wp2;exact⟨⟨i+1,by omega,by go_num,HO3.out,B3.out⟩,by simp[intOf];omega⟩
     | false=>
      have HX:Hid (L++preR (R.take (i+1)) a=M):=by
       show _=_;rw[HSN.out,hc,HMM.out];simp
      go_wp2;exact⟨⟨i+1,by omega,by go_num,by rw[HX.out];exact HO2.out,HB2.out⟩,by simp[intOf];omega⟩
    ·have hin':R.take i=R:=List.take_of_length_le (by rw[←HN.out];omega);have hll:(L++preR (R.take i) a).length≤1000000:=by rw[List.length_append];omega
     have hpg:p.data.toList.getD a 0=p[a]:=by
      have:=byteAt p a hlt;simp[List.getD,this]
     obtain⟨M,hMM⟩:∃M,M=L++preR (R.take i) a:=⟨_,rfl⟩;have HMM:Hid (M=L++preR R a):=by show _=_;rw[hMM,hin']
     have HPG:Hid (p.data.toList.getD a 0=p[a]):=hpg;rw[←hMM]at HO2 hll;clear hMM hin' hM2 hpg hpre htl
     go_wp2_with (at_builtin;refine wpList_append_own _ rfl (.tmp 38) (.tmp 42) 91 rfl w.heap.size 5 i0 _ 1 1 Tryz.underlying91 hi0 hz0 hz1 hz2 rfl (by decide) u5 M.length (byV M) rfl (HO2.out.alloc _) ⟨wr.heap.size,0,none⟩ 1 1 [.int .u8 (p[a].toNat:Int)] rfl rfl ?hnews ?h1 ?h63 ?hby ?hbase ?next)
     case hnews=>exact cell_one_new _ _ _
     case h1=>intro u hu;simp at hu;subst hu;rfl
     case h63=>unfold maxLen;omega
     case hby=>omega
     case hbase=>simp;omega
     case next=>
      intro v' w1 hown1 hgrow _;have B3:Hid (Below w.heap.size w w1):=(HB2.out.alloc (by omega) _).grown hgrow (by simp;omega) (fun q hq=>(HO2.out.lt q hq).1);obtain⟨M2,hM2⟩:∃M2,M2=M++[p[a]]:=⟨_,rfl⟩;have HM2:Hid (M2=M++[p[a]]):=hM2;have HO3:Hid (w1.ownsRow w.heap.size 5 1 v' M2.length (byV M2)):=by
       show World.ownsRow _ _ _ _ _ _ _;have:byV (M++[p[a]])=byV M++[.int .u8 (p[a].toNat:Int)]:=by simp[byV]
       rw[hM2,this,List.length_append];exact hown1
      have hl2:M2.length≤1000001:=by rw[hM2,List.length_append];simp;omega
      clear hown1 hgrow hM2;go_wp2
      go_loopw [5,8] (fun v iv wr=>∃i:Nat,i≤n∧iv=.int .i64 i∧wr.ownsRow w.heap.size 5 1 v (M2++pstR (R.take i) a).length (byV (M2++pstR (R.take i) a))∧Below w.heap.size w wr) (fun _ iv _=>n-(intOf iv).toNat)
      case atStart=>exact⟨0,Nat.zero_le _,rfl,by simpa[pstR]using HO3.out,B3.out⟩
      case round=>
       obtain⟨j,hj,rfl,hown,hbe⟩:=hrel;have HO4:Hid (wr.ownsRow w.heap.size 5 1 u5 (M2++pstR (R.take j) a).length (byV (M2++pstR (R.take j) a))):=hown;have HB4:Hid (Below w.heap.size w wr):=hbe;have hsz4:=hbe.size;have hM4:=ownsRow_later HM.out hbe;have hpst:=pstR_len (R.take j) a;have htl:(R.take j).length≤j:=List.length_take_le _ _;clear hown hbe
       by_cases hjn:j<n
       ·obtain⟨r,hr⟩:∃r,R[j]?=some r:=⟨R[j]'(by rw[←HN.out];exact hjn),List.getElem?_eq_getElem _⟩;obtain⟨g,cap',hv,_,_⟩:=HM.out.form (by rw[←HN.out];omega);rw[←HN.out]at hv;cases hv;obtain⟨e1,e2⟩:=rgV_get R j r hr;have q0:wr.cell? ⟨g,j*2,none⟩=some (.int .i64 r.1):=(hM4.cellAt (j*2) (by rw[←HN.out];omega)).trans e1;obtain⟨p0,p1⟩:=HPL.out r (List.mem_of_getElem? hr);have HSN:Hid (pstR (R.take (j+1)) a=pstR (R.take j) a++(if r.1+1==(a:Int)then [62]else [])):=pstR_snoc hr a;have hjj:(j:Int)<(n:Int):=by omega
        have hll:(M2++pstR (R.take j) a).length≤2000001:=by rw[List.length_append];omega
        obtain⟨M4,hMM⟩:∃M4,M4=M2++pstR (R.take j) a:=⟨_,rfl⟩;have HMM4:Hid (M4=M2++pstR (R.take j) a):=hMM;rw[←hMM]at HO4 hll;clear hr hM4 e1 e2 hMM hpst htl;cases hc:(r.1+1==(a:Int))with
        | true=>
         have HX:Hid (M2++pstR (R.take (j+1)) a=M4++[62]):=by
          show _=_;rw[HSN.out,hc,if_pos rfl,HMM4.out,List.append_assoc]
         go_wp2_with (at_builtin;refine wpList_append_own _ rfl (.tmp 58) (.tmp 59) 91 rfl w.heap.size 5 i0 _ 1 1 Tryz.underlying91 hi0 hz0 hz1 hz2 rfl (by decide) u5 M4.length (byV M4) rfl (HO4.out.alloc _) ⟨wr.heap.size,0,none⟩ 1 1 [.int .u8 62] rfl rfl ?hnews4 ?h14 ?h634 ?hby4 ?hbase4 ?next4)
         case hnews4=>exact cell_one_new _ _ _
         case h14=>intro u hu;simp at hu;subst hu;rfl
         case h634=>unfold maxLen;omega
         case hby4=>omega
         case hbase4=>simp;omega
         case next4=>
          intro v5 w5 hown5 hgrow5 _;have B5:Hid (Below w.heap.size w w5):=(HB4.out.alloc (by omega) _).grown hgrow5 (by simp;omega) (fun q hq=>(HO4.out.lt q hq).1);have HO5:Hid (w5.ownsRow w.heap.size 5 1 v5 (M2++pstR (R.take (j+1)) a).length (byV (M2++pstR (R.take (j+1)) a))):=by
           show World.ownsRow _ _ _ _ _ _ _;rw[HX.out,show byV (M4++[62])=byV M4++[.int .u8 62] by simp[byV],List.length_append];exact hown5
          clear hown5 hgrow5;go_wp2;exact⟨⟨j+1,by omega,by go_num,HO5.out,B5.out⟩,by simp[intOf];omega⟩
        | false=>
         have HX:Hid (M2++pstR (R.take (j+1)) a=M4):=by
          show _=_;rw[HSN.out,hc,HMM4.out];simp
         go_wp2;exact⟨⟨j+1,by omega,by go_num,by rw[HX.out];exact HO4.out,HB4.out⟩,by simp[intOf];omega⟩
       ·have hjn':R.take j=R:=List.take_of_length_le (by rw[←HN.out];omega);have HO5:Hid (wr.ownsRow w.heap.size 5 1 u5 (layN R p.data.toList (a+1)).length (byV (layN R p.data.toList (a+1)))):=by
         show World.ownsRow _ _ _ _ _ _ _;have e:layN R p.data.toList (a+1)=M2++pstR (R.take j) a:=by
          rw[layN,HPG.out,hjn',HM2.out,HMM.out,HL.out];simp
         rw[e];exact HO4.out
        clear hjn' hM4 hpst htl;go_wp2;exact⟨⟨a+1,by omega,by go_num,HO5.out,HB4.out⟩,by simp[intOf];omega⟩
  ·have haa:a=p.data.toList.length:=by rw[len_eq];omega
   have HFIN:Hid (layN R p.data.toList a=o.data.toList):=by
    show _=_;rw[haa,layN_all,HOO.out]
   obtain⟨L,hL⟩:∃L,L=layN R p.data.toList a:=⟨_,rfl⟩;have HLo:Hid (o=⟨L.toArray⟩):=by
    show _=_;rw[hL,HFIN.out]
   rw[←hL]at HO hLa;clear hL haa HFIN;rcases HO.out.2 with⟨hv,hn0⟩|⟨gb,cap,cur,hv,_⟩
   ·have ho:L=[]:=List.eq_nil_of_length_eq_zero hn0;subst hv;subst ho;have hcv:=fun(wx:World)=>run_convert_bytes_nil (P:=Tryz.prog) wx 91 5 Tryz.underlying91 Tryz.underlying5 0 0 9 Tryz.underlying9
    go_wp2;go_ret;exact⟨by rw[HLo.out];rfl,HB.out⟩
   ·subst hv
    have hcv:=run_convert_bytes_back (P:=Tryz.prog) wr 91 9 5 ⟨gb,0,none⟩ cap L Tryz.underlying91 Tryz.underlying5 Tryz.underlying9 (fun j hj=>by
     rw[addr_at];have:=HO.out.cellAt j (by omega);rw[this]
     simp[byV,List.getElem?_eq_getElem hj])
    go_wp2;go_ret;exact⟨by rw[HLo.out];rfl,HB.out⟩
theorem Tryz.infoRegion:(Tryz.prog.info? 149).map (fun i=>(i.zero,i.size,i.bytes))=some (some (.agg #[.int .i64 0,.int .i64 0]),2,16):=by kernel_rfl
theorem rgV_app(a b:List (Int×Int)):rgV (a++b)=rgV a++rgV b:=by simp[rgV]
def rgS(s:SP):List (Int×Int):=if s.lock=-1 then []else s.pls.map fun q=>(q,s.lock)
theorem regL_snoc{S:List SP}{i:Nat}{s:SP}(h:S[i]?=some s):regL (S.take (i+1))=regL (S.take i)++rgS s:=by
 obtain⟨hk,rfl⟩:=List.getElem?_eq_some_iff.1 h;rw[List.take_succ_eq_append_getElem hk,regL,List.flatMap_append];simp[regL,rgS]
theorem regL_bound{S:List SP}(h:∀(i:Nat) (s:SP),S[i]?=some s→s.pls.length≤1000):∀i,i≤S.length→(regL (S.take i)).length≤i*1000:=by
 intro i
 induction i with
 | zero=>intro _;simp[regL]
 | succ i ih=>
  intro hi;have hs:=List.getElem?_eq_getElem (show i<S.length by omega);have h1:=h i _ hs;have h2:=ih (by omega);rw[regL_snoc hs,List.length_append,rgS]
  split
  ·rw[List.length_nil,Nat.add_zero];exact Nat.le_trans h2 (Nat.mul_le_mul_right _ (Nat.le_succ _))
  ·rw[List.length_map];omega
set_option maxHeartbeats 3200000 in
set_option maxRecDepth 100000 in
theorem regions_any{B sb:Nat}{vs vp:Value}{O:List Value}{S:List SP}{V:List Value}{P:List (Nat×Nat)}(w:World)(h:SQ w B sb vs vp O S V P)(hl:S.length≤1000)(hpl:∀(i:Nat) (s:SP),S[i]?=some s→s.pls.length≤1000) :
  Calls Tryz.prog 78 #[.pointer (some ⟨sb,0,none⟩)] w fun e w'=>(∃a c,e=.returned (.slice a (regL S).length c)∧w'.ownsRow w.heap.size 149 2 (.slice a (regL S).length c) (regL S).length (rgV (regL S)))∧Below w.heap.size w w':=by
 obtain⟨ir,hir,zr0,zr1,zr2⟩:=info_parts Tryz.infoRegion;have HQ:Hid (SQ w B sb vs vp O S V P):=h;have HPL:Hid (∀(i:Nat) (s:SP),S[i]?=some s→s.pls.length≤1000):=hpl;obtain⟨av,cv,hvs⟩:=row_slice h.sm.sp;have HVS:Hid (vs=.slice av S.length cv):=hvs;have HRB:Hid (∀i,i≤S.length→(regL (S.take i)).length≤i*1000):=regL_bound hpl;obtain⟨n,hn⟩:∃n,n=S.length:=⟨_,rfl⟩;have HN:Hid (n=S.length):=hn;have HC0:Hid (∀W,Below w.heap.size w W→W.cell? ⟨sb,0,none⟩=some (.slice av n cv)):=fun W hW=>by
  have:=(HQ.out.below hW).sm.c0;rw[HVS.out,←hn]at this;exact this
 rw[←hn]at hl;clear h hpl hvs hn;have c0:=HC0.out w (Below.refl _ _)
 go_enter Tryz.func78,Tryz.ntmps78
 go_wp2
 go_loopw [3,4] (fun v iv wr=>∃i:Nat,i≤n∧iv=.int .i64 i∧wr.ownsRow w.heap.size 149 2 v (regL (S.take i)).length (rgV (regL (S.take i)))∧Below w.heap.size w wr) (fun _ iv _=>n-(intOf iv).toNat)
 case atStart=>exact⟨0,Nat.zero_le _,rfl,by simpa[regL,rgV]using World.ownsRow_nil w w.heap.size 149 2,Below.refl _ _⟩
 case round=>
  obtain⟨i,hi,rfl,hown,hbe⟩:=hrel;have HO:Hid (wr.ownsRow w.heap.size 149 2 u3 (regL (S.take i)).length (rgV (regL (S.take i)))):=hown;have HB:Hid (Below w.heap.size w wr):=hbe;have c0:=HC0.out wr hbe;have hri:=HRB.out i (by rw[←HN.out];exact hi);clear hown hbe
  by_cases hlt:i<n
  ·obtain⟨s,hs⟩:∃s,S[i]?=some s:=⟨_,List.getElem?_eq_getElem (by rw[←HN.out];exact hlt)⟩;obtain⟨g,cp,v,hv,_,_⟩:=HQ.out.sm.spot hs;have hav:av=some ⟨g,0,none⟩:=by rw[HVS.out]at hv;cases hv;rfl
   subst hav;obtain⟨gp,cpp,hvp,_⟩:=HQ.out.at hs;obtain⟨np,hnp⟩:∃np,np=s.pls.length:=⟨_,rfl⟩;have HNP:Hid (np=s.pls.length):=hnp;have hpn:=HPL.out i s hs;have HKP:Hid (∀W,Below w.heap.size w W→W.cell? ⟨g,i*15+12,none⟩=some (.slice (some ⟨gp,0,none⟩) np cpp)∧W.cell? ⟨g,i*15+13,none⟩=some (.int .i64 s.lock)∧∀j q,s.pls[j]?=some q→W.cell? ⟨gp,j,none⟩=some (.int .i64 q)):=fun W hW=>by
    have hW2:=HQ.out.below hW;obtain⟨g2,c2,v2,hv2,hvi2,hc2⟩:=hW2.sm.spot hs;have e2:g2=g:=by rw[HVS.out]at hv2;cases hv2;rfl
    subst e2;have ev:v2=.slice (some ⟨gp,0,none⟩) s.pls.length cpp:=by rw[hvp]at hvi2;exact(Option.some.inj hvi2).symm
    subst ev;refine⟨by rw[hnp];exact hc2 12 _ (by decide) rfl,hc2 13 _ (by decide) rfl,fun j q hq=>?_⟩;have hr:=hW2.row i s _ hs hvp;exact(hr.cellAt j (by have:=(List.getElem?_eq_some_iff.1 hq).1;omega)).trans (by rw[inV,List.getElem?_map,hq];rfl)
   obtain⟨q12,q13,_⟩:=HKP.out wr HB.out;have HSN:Hid (regL (S.take (i+1))=regL (S.take i)++rgS s):=regL_snoc hs;have hii:(i:Int)<(n:Int):=by omega
   have hid:decide ((i:Int)<(n:Int))=true:=by simp;omega
   rw[←hnp]at hpn;clear hs hv hvp hnp;obtain⟨L,hL⟩:∃L,L=regL (S.take i):=⟨_,rfl⟩;have HL:Hid (L=regL (S.take i)):=hL;rw[←hL]at HO HSN hri;clear hL
   by_cases hb:s.lock=-1
   ·have HX:Hid (regL (S.take (i+1))=L):=by
     show _=_;rw[HSN.out,rgS,if_pos hb,List.append_nil]
    rw[hb]at q13;clear hb;go_wp2;exact⟨⟨i+1,by omega,by go_num,by rw[HX.out];exact HO.out,HB.out⟩,by simp[intOf];omega⟩
   ·have hbb:(s.lock==-1)=false:=by simpa using hb
    have HX:Hid (regL (S.take (i+1))=L++s.pls.map fun q=>(q,s.lock)):=by
     show _=_;rw[HSN.out,rgS,if_neg hb]
    clear hb;obtain⟨wa,rfl⟩:∃wa,wa=wr:=⟨_,rfl⟩;go_wp2
    go_loopw [3,5] (fun v jv wr=>∃j:Nat,j≤np∧jv=.int .i64 j∧wr.ownsRow w.heap.size 149 2 v (L++(s.pls.take j).map fun q=>(q,s.lock)).length (rgV (L++(s.pls.take j).map fun q=>(q,s.lock)))∧Below w.heap.size w wr) (fun _ jv _=>np-(intOf jv).toNat)
    case atStart=>exact⟨0,Nat.zero_le _,rfl,by simpa using HO.out,HB.out⟩
    case round=>
     obtain⟨j,hj,rfl,hown,hbe⟩:=hrel;have HO2:Hid (wr.ownsRow w.heap.size 149 2 u3 (L++(s.pls.take j).map fun q=>(q,s.lock)).length (rgV (L++(s.pls.take j).map fun q=>(q,s.lock)))):=hown;have HB2:Hid (Below w.heap.size w wr):=hbe;have hsz:=hbe.size;have c0:=HC0.out wr hbe;obtain⟨q12,q13,_⟩:=HKP.out wr hbe;clear hown hbe
     by_cases hjn:j<np
     ·obtain⟨q,hq⟩:∃q,s.pls[j]?=some q:=⟨_,List.getElem?_eq_getElem (by rw[←HNP.out];exact hjn)⟩;have HK:Hid (∀W,Below w.heap.size w W→W.cell? ⟨sb,0,none⟩=some (.slice (some ⟨g,0,none⟩) n cv)∧W.cell? ⟨g,i*15+12,none⟩=some (.slice (some ⟨gp,0,none⟩) np cpp)∧W.cell? ⟨g,i*15+13,none⟩=some (.int .i64 s.lock)∧W.cell? ⟨gp,j,none⟩=some (.int .i64 q)):=fun W hW=>by
       obtain⟨a1,a2,a3⟩:=HKP.out W hW;exact⟨HC0.out W hW,a1,a2,a3 j q hq⟩
      obtain⟨M,hM⟩:∃M,M=L++(s.pls.take j).map fun q=>(q,s.lock):=⟨_,rfl⟩
      have HMN:Hid (L++(s.pls.take (j+1)).map (fun q=>(q,s.lock))=M++[(q,s.lock)]):=by
       show _=_;obtain⟨hk,hqe⟩:=List.getElem?_eq_some_iff.1 hq;rw[List.take_succ_eq_append_getElem hk,List.map_append,hqe,hM,List.append_assoc];rfl
      have hMl:M.length≤2000000:=by
       have:(s.pls.take j).length≤j:=List.length_take_le _ _;rw[hM,List.length_append,List.length_map];omega
      rw[←hM]at HO2;have hjj:(j:Int)<(np:Int):=by omega
      have hjd:decide ((j:Int)<(np:Int))=true:=by simp;omega
      have hblk:∀o,((wr.alloc o).drew).heap[wr.heap.size]?=some o:=fun o=>heap_alloc_new wr o
      clear hM hq
      go_wp2_with fail
      go_region_held_law (fun W=>W.cell? ⟨sb,0,none⟩=some (.slice (some ⟨g,0,none⟩) n cv)∧W.cell? ⟨g,i*15+12,none⟩=some (.slice (some ⟨gp,0,none⟩) np cpp)∧W.cell? ⟨g,i*15+13,none⟩=some (.int .i64 s.lock)∧W.cell? ⟨gp,j,none⟩=some (.int .i64 q)) (first|exact HK.out _ HB2.out.drew|exact HK.out _ (HB2.out.alloc hsz _).drew|exact HK.out _ hbx) ((refine step_append_lies _ (by rfl) _ _ _ (by rfl) w.heap.size 149 ir _ 2 16 Tryz.underlying108 hir zr0 zr1 zr2 rfl (by omega) u3 M.length (rgV M) (by rfl) ((HO2.out.alloc _).drew) ⟨wr.heap.size,0,none⟩ 1 1 [.int .i64 q,.int .i64 s.lock] (by rfl) (by rfl) (World.news_of_block (cs:=#[.int .i64 q,.int .i64 s.lock]) (t:=149) (fr:=(0,0)) (hblk _)) (by simp[Value.oneCell']) (by omega) (by unfold maxLen;omega) (by omega) (by simp;omega) (wr.heap.size+1) (by simp) ?_;intro gg cap w2 hown2 hgrow hat hlt2;have hbx:Below w.heap.size w w2:=((HB2.out.alloc hsz _).drew).grown hgrow (by simp;omega) (fun k hk=>(HO2.out.lt k hk).1)))
      all_goals
       have HO3:Hid (w2.ownsRow w.heap.size 149 2 (.slice (some ⟨gg,0,none⟩) (M.length+1) cap) (L++(s.pls.take (j+1)).map fun q=>(q,s.lock)).length (rgV (L++(s.pls.take (j+1)).map fun q=>(q,s.lock)))):=by
        show World.ownsRow _ _ _ _ _ _ _;rw[HMN.out,rgV_app,List.length_append];exact hown2
       have HB3:Hid (Below w.heap.size w w2):=hbx;clear hown2 hgrow hat hlt2 hbx;go_wp2;exact⟨⟨j+1,by omega,by go_num,HO3.out,HB3.out⟩,by simp[intOf];omega⟩
     ·have hjn':s.pls.take j=s.pls:=List.take_of_length_le (by rw[←HNP.out];omega);have HO3:Hid (wr.ownsRow w.heap.size 149 2 u3 (regL (S.take (i+1))).length (rgV (regL (S.take (i+1))))):=by
       show World.ownsRow _ _ _ _ _ _ _;rw[HX.out,←hjn'];exact HO2.out
      have hjd:decide ((j:Int)<(np:Int))=false:=by simp;omega
      clear hjn';go_wp2;exact⟨⟨i+1,by omega,by go_num,HO3.out,HB2.out⟩,by simp[intOf];omega⟩
  ·have hin:S.take i=S:=List.take_of_length_le (by rw[←HN.out];omega);rw[hin]at HO;obtain⟨a,c,rfl⟩:=row_slice HO.out;have hid:decide ((i:Int)<(n:Int))=false:=by simp;omega
   clear hin;obtain⟨N,hN⟩:∃N,N=(regL S).length:=⟨_,rfl⟩;have HNN:Hid (N=(regL S).length):=hN;rw[←hN]at HO;clear hN;go_wp2;go_ret;exact⟨⟨a,c,by rw[←HNN.out];rfl,by rw[←HNN.out];exact HO.out⟩,HB.out⟩
def AnsF(F:List ST)(S':List SP):Prop:=∀sd,SdOk (edS F) (prQ (spots (accS F)) (spots (accS F)).length) sd→∃n:Nat,cloF sd (prQ (spots (accS F)) (spots (accS F)).length) (unS (spots (accS F))+1) (spots (accS F)) n=some S'∧∀n':Nat,n'<n→cloF sd (prQ (spots (accS F)) (spots (accS F)).length) (unS (spots (accS F))+1) (spots (accS F)) n'=none
theorem sd_any(E:Nat→Nat→Bool)(P:List (Nat×Nat)):∃sd,SdOk E P sd:=by
 have:∀S:List SP,∃b:Bool,b=true↔LostNo S P∧FairX E S (lkS S):=fun S=>by
  by_cases hx:LostNo S P∧FairX E S (lkS S)
  ·exact⟨true,fun _=>hx,fun _=>rfl⟩
  ·exact⟨false,fun h=>(by cases h),fun h=>absurd h hx⟩
 obtain⟨f,hf⟩:=Classical.axiomOfChoice this;exact⟨f,hf⟩
theorem sd_same{E:Nat→Nat→Bool}{P:List (Nat×Nat)}{sd sd':List SP→Bool}(h:SdOk E P sd)(h':SdOk E P sd'):sd=sd':=by
 funext S
 rw[Bool.eq_iff_iff,h S,h' S]
theorem AnsF.unique{F:List ST}{S1 S2:List SP}(h1:AnsF F S1)(h2:AnsF F S2):S1=S2:=by
 obtain⟨sd,hsd⟩:=sd_any (edS F) (prQ (spots (accS F)) (spots (accS F)).length);obtain⟨n,a1,a2⟩:=h1 sd hsd;obtain⟨m,b1,b2⟩:=h2 sd hsd;have:n=m:=by
  by_cases e:n=m
  ·exact e
  ·by_cases hlt:n<m
   ·rw[b2 n hlt]at a1;cases a1
   ·rw[a2 m (by omega)]at b1;cases b1
 subst this;rw[a1]at b1;exact Option.some.inj b1
def FewOut(F:List ST)(w:World)(e:Ending)(w':World):Prop:=
 ∃(S':List SP) (n:Nat) (a:Option Addr) (c:Nat),AnsF F S'∧e=.returned (.slice a (regL S').length c)∧w'.ownsRow w.heap.size 149 2 (.slice a (regL S').length c) (regL S').length (rgV (regL S')) ∧
  Found (edS F) (spots (accS F)) S' (prQ (spots (accS F)) (spots (accS F)).length) n∧(∀n':Nat,n'<n→NoneAt (edS F) (spots (accS F)) (prQ (spots (accS F)) (spots (accS F)).length) n')∧Below w.heap.size w w'
set_option maxHeartbeats 3200000 in
set_option maxRecDepth 100000 in
theorem fewest_any(B0:Nat)(am:Option Addr)(cm:Nat)(F:List ST)(w:World)(h:w.ownsRow B0 88 12 (.slice am F.length cm) F.length (stsV F))(hlen:F.length≤1000)(hsome:∀n:Nat,F.length≤n→¬NoneAt (edS F) (spots (accS F)) (prQ (spots (accS F)) (spots (accS F)).length) n) :
  Calls Tryz.prog 55 #[.slice am F.length cm] w fun e w'=>FewOut F w e w':=by
 have HSO:Hid (∀n:Nat,F.length≤n→¬NoneAt (edS F) (spots (accS F)) (prQ (spots (accS F)) (spots (accS F)).length) n):=hsome;have HBG:Hid (Calls Tryz.prog 76 #[.slice am F.length cm] w fun e w'=>BegOut F w e w'):=begun_any B0 am cm F w h hlen;have hl1:(spots (accS F)).length≤1000:=by
  have h1:=spots_len (accS F);have h2:=accS_le F;omega
 have HL1:Hid ((spots (accS F)).length≤1000):=hl1;have HL2:Hid (∀(i:Nat) (s:SP),(spots (accS F))[i]?=some s→s.pls.length≤1000):=fun i s hs=>by
  have h1:=spots_pls _ i s hs;have h2:=accS_le F;omega
 have HL3:Hid ((prQ (spots (accS F)) (spots (accS F)).length).length≤1000000):=by
  have:=prQ_len (spots (accS F)) hl1 (spots (accS F)).length;show _≤_;omega
 obtain⟨i1,i2,i3,i4⟩:=start_ok3 (accS F) (edS F) (prQ (spots (accS F)) (spots (accS F)).length) (prQ_lt _);have HST:Hid (InvS (spots (accS F)) (prQ (spots (accS F)) (spots (accS F)).length)∧LostNo (spots (accS F)) (prQ (spots (accS F)) (spots (accS F)).length)∧FairX (edS F) (spots (accS F)) (lkS (spots (accS F)))):=⟨i1,i2,i3⟩;obtain⟨sd,hsd⟩:=sd_any (edS F) (prQ (spots (accS F)) (spots (accS F)).length);have HSD:Hid (SdOk (edS F) (prQ (spots (accS F)) (spots (accS F)).length) sd):=hsd;clear h hsome hl1 i1 i2 i3 i4 hsd;unfold FewOut AnsF;obtain⟨S,hS⟩:∃S,S=spots (accS F):=⟨_,rfl⟩;rw[←hS]at HSO HL1 HL2 HL3 HST HSD ⊢;obtain⟨P,hP⟩:∃P,P=prQ S S.length:=⟨_,rfl⟩;rw[←hP]at HSO HL3 HST HSD ⊢;have HBO:Hid (∀e w',BegOut F w e w'→∃vs vp O V,e=.returned (.agg (vs::vp::O).toArray)∧OV (edS F) O∧vs.oneCell'=true∧vp.oneCell'=true∧RQ w' (w.heap.size+1) vs vp S V P∧Below w.heap.size w w'):=fun e w' hb=>by
  rw[hP,hS];exact hb
 clear hS hP;obtain⟨n,hn⟩:∃n,n=F.length:=⟨_,rfl⟩;have HN:Hid (n=F.length):=hn;rw[←hn]at hlen HBG ⊢;clear hn
 go_enter Tryz.func55,Tryz.ntmps55
 go_wp2_with fail
 refine HBG.out.mono ?_;intro e w1 hbo;obtain⟨vs,vp,O,V,rfl,hov,ov,op,hrq,hb1⟩:=HBO.out e w1 hbo;clear hbo;have HOV:Hid (OV (edS F) O):=hov;have hOl:O.length=25:=hov.1;have hO1:O.toArray.all (·.oneCell')=true:=hov.one;obtain⟨X,hX⟩:∃X,X=vs::vp::O:=⟨_,rfl⟩;have HX:Hid (X=vs::vp::O):=hX;have hXX:X.length=27:=by rw[hX];simp[hOl]
 have hXo:X.toArray.all (·.oneCell')=true:=by
  refine all_oneCell_toArray fun v hv=>?_
  rw[hX]at hv;rcases List.mem_cons.1 hv with rfl|hv
  ·exact ov
  ·rcases List.mem_cons.1 hv with rfl|hv
   ·exact op
   ·exact Array.all_eq_true_iff_forall_mem.1 hO1 v (by simpa using hv)
 obtain⟨w2,hw2⟩:∃w2,w2=w1.alloc (.cells Z27.toArray 145):=⟨_,rfl⟩;have HW2:Hid (w2=w1.alloc (.cells Z27.toArray 145)):=hw2;have HZ:Hid (Blk w2 w1.heap.size Z27 145):=by show Blk _ _ _ _;rw[hw2];exact heap_alloc_new _ _
 have hB2:Below w1.heap.size w1 w2:=by rw[hw2];exact(Below.refl _ _).alloc (Nat.le_refl _) _
 have HRQ2:Hid (RQ w2 (w.heap.size+1) vs vp S V P):=hrq.below hB2;have W3b:Hid (Blk (w2.setCells w1.heap.size 0 X) w1.heap.size (vs::vp::O) 145):=by
  have:=setCells_blk X Z27 0 HZ.out (by rw[hXX];rfl);show Blk _ _ _ _;rw[HX.out]at this ⊢;simpa using this
 have W3c:Hid (Chg [w1.heap.size] w2 (w2.setCells w1.heap.size 0 X)):=setCells_chg w2 w1.heap.size X 0 w2 (Chg.refl _ _);have HQ3:Hid (SQ (w2.setCells w1.heap.size 0 X) (w.heap.size+1) w1.heap.size vs vp O S V P):=(HRQ2.out.turn HZ.out W3c.out).sq W3b.out;have hs1:=hb1.size;have HB3:Hid (Below w.heap.size w (w2.setCells w1.heap.size 0 X)):=(hb1.trans (hB2.mono hs1)).trans (W3c.out.below (by simp;omega) (by have:=hB2.size;omega));have THR3:w2.there w1.heap.size 0 X.toArray.size:=by
  have e27:Z27.length=X.toArray.size:=by simp[hXX,Z27,Z25]
  have:=HZ.out.there;rw[e27]at this;exact this
 obtain⟨w3,hw3⟩:∃w3,w3=w2.setCells w1.heap.size 0 X:=⟨_,rfl⟩;have HW3:Hid (w3=w2.setCells w1.heap.size 0 X):=hw3;rw[←hw3]at HQ3 HB3;rw[←hX];have THR4:(w1.alloc (.cells Z27.toArray 145)).there w1.heap.size 0 X.toArray.size:=by rw[←hw2];exact THR3
 clear hX hw2 hw3 hov hrq hb1 hB2 THR3 W3b;have hsb3:=HQ3.out.sm.blk.lt;have HW2':Hid (w2=w1.alloc (.cells #[.slice none 0 0,.slice none 0 0,.bool false,.bool false,.bool false,.bool false,.bool false,.bool false,.bool false,.bool false,.bool false,.bool false,.bool false,.bool false,.bool false,.bool false,.bool false,.bool false,.bool false,.bool false,.bool false,.bool false,.bool false,.bool false,.bool false,.bool false,.bool false] 145)):=HW2.out
 go_wp2_with (refine wpList_store_mid (by rfl) 145 (.tmp 3) (.tmp 7) (by rfl) w1.heap.size 0 X.toArray (by rfl) (by rfl) THR4 (by rw[List.size_toArray,hXX];exact Tryz.infoSearch) hXo ?_;rw[show X.toArray.toList=X from rfl,←HW2'.out,←HW3.out])
 clear THR4 hXo hXX hO1 hOl ov op W3c HRQ2 HZ HW2 HW3 HX HW2'
 go_loopw [4] (fun iv wr=>∃c:Nat,c≤n+1∧iv=.int .i64 c∧SQ wr (w.heap.size+1) w1.heap.size vs vp O S V P∧(∀n':Nat,n'<c→NoneAt (edS F) S P n'∧cloF sd P (unS S+1) S n'=none)∧Below w.heap.size w wr) (fun iv _=>n+1-(intOf iv).toNat)
 case atStart=>exact⟨0,Nat.zero_le _,rfl,HQ3.out,fun n' h=>by omega,HB3.out⟩
 case round=>
  obtain⟨c,hc,rfl,hq,hno,hbe⟩:=hrel;have HQ4:Hid (SQ wr (w.heap.size+1) w1.heap.size vs vp O S V P):=hq;have HNO:Hid (∀n':Nat,n'<c→NoneAt (edS F) S P n'∧cloF sd P (unS S+1) S n'=none):=hno;have HB4:Hid (Below w.heap.size w wr):=hbe;clear hq hno hbe
  by_cases hcn:c≤n
  ·have hcd:decide ((c:Int)≤(n:Int))=true:=by simp;omega
   go_wp2_with fail
   refine(closes_any HSD.out HOV.out HL3.out (unS S+1) S (c:Int) wr (Nat.lt_succ_self _) HQ4.out.sm HST.out.1 HST.out.2.1 HST.out.2.2 HL1.out (fun i=>by
    rw[plS];cases hs:S[i]? with
    | none=>exact Nat.zero_le _
    | some s=>exact HL2.out i s hs) (by omega) (by omega)).mono ?_
   rintro e w4 ⟨hg,hcase⟩;have HG:Hid (wr.grownBy w4 vs.ownBlock):=hg;have hs4:=HB4.out.size;have HB5:Hid (Below w.heap.size w w4):=HB4.out.grown hg hs4 (fun k hk=>by have:=(HQ4.out.sm.sp.lt k hk).1;omega);have HVO:Hid (∀(i:Nat) (v:Value),V[i]?=some v→v.ownBlock≠vs.ownBlock):=fun i v hv=>by
    have his:i<S.length:=by rw[←HQ4.out.sm.vl];exact(List.getElem?_eq_some_iff.1 hv).1
    obtain⟨g',c',e,hr⟩:=HQ4.out.at (List.getElem?_eq_getElem his);rw[hv]at e;have:=Option.some.inj e;subst this;rcases rows_apart hr HQ4.out.sm.sp (by decide)with h|h
    ·cases h
    ·exact h
   clear hg;rcases hcase with⟨S',hD,rfl,hfo,hsm⟩|⟨hD,rfl,hnone,hsm⟩
   ·have HFO:Hid (Found (edS F) S S' P c):=hfo;have HPS:Hid (∀(i:Nat) (s':SP),S'[i]?=some s'→∃s,S[i]?=some s∧s'.pls=s.pls):=fun i s' hs'=>by
     obtain⟨s,h1,_,h3⟩:=bsS_some hfo.bs.symm hs';exact⟨s,h1,h3.symm⟩
    have HQ5:Hid (SQ w4 (w.heap.size+1) w1.heap.size vs vp O S' V P):=HQ4.out.kept hsm HG.out HVO.out HPS.out;have HAN:Hid (∀sd,SdOk (edS F) P sd→∃n:Nat,cloF sd P (unS S+1) S n=some S'∧∀n':Nat,n'<n→cloF sd P (unS S+1) S n'=none):=fun sd' h'=>by
     rw[←sd_same HSD.out h'];exact⟨c,hD,fun n' hn'=>(HNO.out n' hn').2⟩
    clear hfo hsm hD
    go_wp2_with fail
    refine(regions_any w4 HQ5.out (by rw[bsS_len HFO.out.bs];exact HL1.out) (fun i s' hs'=>by
     obtain⟨s,h1,h2⟩:=HPS.out i s' hs'
     rw[h2];exact HL2.out i s h1)).mono ?_
    rintro e w5 ⟨⟨a,cc,rfl,hown⟩,hb5⟩;have HO5:Hid (w5.ownsRow w.heap.size 149 2 (.slice a (regL S').length cc) (regL S').length (rgV (regL S'))):=ownsRow_lower hown HB5.out.size;have HB6:Hid (Below w.heap.size w w5):=HB5.out.trans (hb5.mono HB5.out.size);clear hown hb5;obtain⟨N,hN⟩:∃N,N=(regL S').length:=⟨_,rfl⟩;have HNN:Hid (N=(regL S').length):=hN;rw[←hN]at HO5 ⊢;clear hN;go_wp2;go_ret;exact⟨S',c,a,cc,HAN.out,by rw[←HNN.out];rfl,by rw[←HNN.out];exact HO5.out,HFO.out,fun n' hn'=>(HNO.out n' hn').1,HB6.out⟩
   ·have HN2:Hid (∀n':Nat,n'<c+1→NoneAt (edS F) S P n'∧cloF sd P (unS S+1) S n'=none):=fun n' h=>by
     by_cases e:n'=c
     ·rw[e];exact⟨hnone,hD⟩
     ·exact HNO.out n' (by omega)
    have HQ5:Hid (SQ w4 (w.heap.size+1) w1.heap.size vs vp O S V P):=HQ4.out.kept hsm HG.out HVO.out (fun i s hs=>⟨s,hs,rfl⟩);clear hnone hsm hD;go_wp2;exact⟨⟨c+1,by omega,by go_num,HQ5.out,HN2.out,HB5.out⟩,by simp[intOf];omega⟩
  ·exact absurd (HNO.out n (by omega)).1 (HSO.out n (by rw[HN.out];exact Nat.le_refl _))
def anM(l:List ST):Bool:=l.any fun s=>s.mend
theorem anM_snoc(l:List ST)(s:ST):anM (l++[s])=(anM l||s.mend):=by simp[anM]
theorem anM_set:∀(l:List ST) (i:Nat) (s t:ST),l[i]?=some s→t.mend=s.mend→anM (l.set i t)=anM l:=by
 intro l
 induction l with
 | nil=>intro i s t h;simp at h
 | cons x r ih=>
  intro i s t h hm;cases i with
  | zero=>simp at h;subst h;simp[anM,hm]
  | succ i=>
   have:=ih i s t (by simpa using h) hm;simp only[anM,List.set_cons_succ,List.any_cons]at this ⊢;rw[this]
theorem anM_lead(l:List ST)(f t:Int):anM (leadL l f t)=anM l:=by
 unfold leadL;split
 ·split
  ·rename_i s hs;exact anM_set _ _ s _ hs rfl
  ·rfl
 ·rfl
theorem anM_else(l:List ST)(f t:Int):anM (elseL l f t)=anM l:=by
 unfold elseL;split
 ·split
  ·rename_i s hs;exact anM_set _ _ s _ hs rfl
  ·rfl
 ·rfl
def MJ(p:List UInt8)(r:RT):Prop:=anM r.st=true↔(60:UInt8)∈p.take r.pl
theorem take_no{p:List UInt8}{k:Nat}{c:UInt8}(h:p[k]?=some c)(hc:c≠60):(60:UInt8)∈p.take (k+1)↔(60:UInt8)∈p.take k:=by
 rw[List.take_add_one,h];simp only[Option.toList,List.mem_append,List.mem_singleton];constructor
 ·rintro(h|h)
  ·exact h
  ·exact absurd h.symm hc
 ·exact .inl
theorem nx_no{p:List UInt8}{q i:Nat}{al:List UInt8}(h:nxI p q al=some i)(hn:(60:UInt8)∉al):∃c,p[q]?=some c∧c≠60:=by
 obtain⟨c,h1,h2⟩:=nxI_char h;exact⟨c,h1,fun e=>hn (by rw[←e];exact List.mem_of_getElem? h2)⟩
theorem MJ.access{p:List UInt8}{r r':RT}(h:MJ p r)(hr:r.access p=(r',true)):MJ p r':=by
 unfold RT.access at hr;cases hx:nxI p r.pl [103,112]with
 | none=>rw[hx]at hr;cases hr
 | some i=>
  rw[hx]at hr;simp only at hr;cases hy:nxI p (r.pl+1) [120,121,122]with
  | none=>rw[hy]at hr;cases hr
  | some g=>
   rw[hy]at hr;simp only[Prod.mk.injEq,and_true]at hr;obtain⟨c,c1,c2⟩:=nx_no hx (by decide);obtain⟨d,d1,d2⟩:=nx_no hy (by decide);subst hr;unfold MJ at h ⊢;simp only[RT.step,RT.to];rw[anM_snoc,take_no d1 d2,take_no c1 c2,←h];simp[stepT]
theorem MJ.piece{p:List UInt8}{r r':RT}(h:MJ p r)(hlt:r.pl<p.length)(hr:r.piece p=(r',true)):MJ p r':=by
 have hc:=List.getElem?_eq_getElem hlt;obtain⟨c,hcc⟩:∃c,p[r.pl]=c:=⟨_,rfl⟩;rw[hcc]at hc;clear hcc;unfold RT.piece at hr;rw[hc]at hr;simp only at hr
 split at hr
 ·exact h.access hr
 split at hr
 ·rename_i e;subst e;unfold RT.addition at hr;cases hx:nxI p (r.pl+1) [48,49,50,51,52,53,54,55,56,57]with
  | none=>rw[hx]at hr;cases hr
  | some d=>
   rw[hx]at hr;simp only[Prod.mk.injEq,and_true]at hr;obtain⟨v,v1,v2⟩:=nx_no hx (by decide);subst hr;unfold MJ at h ⊢;simp only[RT.step,RT.to];rw[anM_snoc,take_no v1 v2,take_no hc (by decide),←h];simp[stepT]
 split at hr
 ·rename_i e;subst e;simp only[Prod.mk.injEq,and_true]at hr;subst hr;unfold MJ at h ⊢;simp only[RT.print,RT.step,RT.to];rw[anM_snoc,take_no hc (by decide),←h];simp[stepT]
 split at hr
 ·rename_i e;subst e;unfold RT.regionBegin at hr;cases hx:nxI p (r.pl+1) [65,66,67,68]with
  | none=>rw[hx]at hr;cases hr
  | some d=>
   rw[hx]at hr;simp only[Prod.mk.injEq,and_true]at hr;obtain⟨v,v1,v2⟩:=nx_no hx (by decide);subst hr;unfold MJ at h ⊢;simp only[RT.push,RT.step,RT.to];rw[anM_snoc,take_no v1 v2,take_no hc (by decide),←h];simp[stepT]
 split at hr
 ·rename_i e;subst e;unfold RT.regionEnd at hr
  split at hr
  ·simp only[Prod.mk.injEq,and_true]at hr;subst hr;unfold MJ at h ⊢;simp only[RT.pop,RT.step,RT.to];rw[anM_snoc,take_no hc (by decide),←h];simp[stepT]
  ·cases hr
 split at hr
 ·rename_i e;subst e;unfold RT.mended at hr;cases hx:nxI p (r.pl+1) [65,66,67,68,69]with
  | none=>rw[hx]at hr;cases hr
  | some d=>
   rw[hx]at hr;simp only at hr;have h0:MJ p (((r.to 2).step 6 r.pl d true).push 2 d 0):=by
    obtain⟨v,v1,v2⟩:=nx_no hx (by decide);unfold MJ;simp only[RT.push,RT.step,RT.to];rw[anM_snoc,take_no v1 v2,List.take_add_one,hc];simp[stepT]
   cases ha:(((r.to 2).step 6 r.pl d true).push 2 d 0).access p with
   | mk r3 ok=>
    rw[ha]at hr;cases ok with
    | false=>cases hr
    | true=>
     have h3:=h0.access ha;simp only at hr;cases hz:nxI p r3.pl [62]with
     | none=>rw[hz]at hr;cases hr
     | some j=>
      rw[hz]at hr;simp only[Prod.mk.injEq,and_true]at hr;obtain⟨v,v1,v2⟩:=nx_no hz (by decide);subst hr;have hin:(60:UInt8)∈p.take r3.pl:=by
       have hpl:r3.pl=r.pl+2+2:=by
        unfold RT.access at ha
        split at ha
        ·cases ha
        ·split at ha
         ·cases ha
         ·simp only[Prod.mk.injEq,and_true]at ha;rw[←ha];rfl
       rw[hpl];have:r.pl<(p.take (r.pl+2+2)).length:=by rw[List.length_take];omega
       have e:(p.take (r.pl+2+2))[r.pl]?=some 60:=by rw[List.getElem?_take_of_lt (by omega)];exact hc
       exact List.mem_of_getElem? e
      unfold MJ at h3 ⊢;simp only[RT.pop,RT.step,RT.to];rw[anM_snoc,take_no v1 v2];simp[hin,h3.2 hin]
 have test:∀k,r.test p k=(r',true)→c≠60→MJ p r':=by
  intro k hr hc60;unfold RT.test RT.bodyBegin at hr;simp only[RT.step]at hr;cases hx:nxI p (r.pl+1) [123]with
  | none=>rw[hx]at hr;cases hr
  | some d=>
   rw[hx]at hr;simp only[Prod.mk.injEq,and_true]at hr;obtain⟨v,v1,v2⟩:=nx_no hx (by decide);subst hr;unfold MJ at h ⊢;simp only[RT.push,RT.to];rw[anM_snoc,take_no v1 v2,take_no hc hc60,←h];simp[stepT]
 split at hr
 ·rename_i e;exact test 3 hr (by rw[e];decide)
 split at hr
 ·rename_i e;exact test 5 hr (by rw[e];decide)
 split at hr
 ·rename_i e;subst e;unfold RT.bodyEnd at hr
  split at hr
  ·unfold RT.bodyBegin at hr;simp only[RT.els,RT.step,RT.pop]at hr;cases hx:nxI p (r.pl+1) [123]with
   | none=>rw[hx]at hr;cases hr
   | some d=>
    rw[hx]at hr;simp only[Prod.mk.injEq,and_true]at hr;obtain⟨v,v1,v2⟩:=nx_no hx (by decide);subst hr;unfold MJ at h ⊢;simp only[RT.push,RT.to];rw[anM_else,anM_snoc,take_no v1 v2,take_no hc (by decide),←h];simp[stepT]
  ·split at hr
   ·simp only[Prod.mk.injEq,and_true]at hr;subst hr;unfold MJ at h ⊢;simp only[RT.lead,RT.pop,RT.to];rw[anM_lead,take_no hc (by decide),←h]
   ·split at hr
    ·simp only[Prod.mk.injEq,and_true]at hr;subst hr;unfold MJ at h ⊢;simp only[RT.els,RT.lead,RT.step,RT.pop,RT.to];rw[anM_else,anM_lead,anM_snoc,take_no hc (by decide),←h];simp[stepT]
    ·cases hr
 split at hr
 ·rename_i e;subst e;unfold RT.nextThread at hr
  split at hr
  ·cases hr
  ·simp only[Prod.mk.injEq,and_true]at hr;subst hr;unfold MJ at h ⊢;simp only[RT.step];rw[anM_snoc,take_no hc (by decide),←h];simp[stepT]
 ·cases hr
theorem ReachT.mj{p:List UInt8}{r:RT}(h:ReachT p r):MJ p r:=by
 induction h with
 | start=>unfold MJ;simp[RT.start,anM]
 | step _ hl he ih=>exact ih.piece hl he
theorem StepsOf.mended{p:List UInt8}{F:List ST}(h:StepsOf p F):(F.any fun s=>s.mend)=true↔(60:UInt8)∈p:=by
 obtain⟨r,hr,hl,_,rfl⟩:=h;have:=hr.mj;unfold MJ at this;rw[hl,List.take_length]at this;show anM (r.step 9 r.pl 0 false).st=true↔_;rw[←this];simp only[RT.step];rw[anM_snoc];simp[stepT]
theorem layP_nil:∀(p:List UInt8) (a:Nat),layP [] a p=p:=by
 intro p
 induction p with
 | nil=>intro a;rfl
 | cons c s ih=>intro a;rw[layP,ih];rfl
def RepD(s t:ByteArray)(a x:Int):Prop:=
 (∃b,ChkIs s x b∧x≠0∧a=0∧t=⟨#[]⟩)∨∃b F,ChkIs s 0 b∧StepsOf s.data.toList F ∧
  (((F.any fun s=>s.mend)=true∧a=0∧t=⟨#[]⟩∧x=5)∨((F.any fun s=>s.mend)=false ∧
   (((10<(accL (mksS F)).length∨200<s.size)∧a=0∧t=⟨#[]⟩∧x=6)∨(¬(10<(accL (mksS F)).length∨200<s.size)∧x=0 ∧
    ∃S',AnsF F S'∧((regL S'=[]∧a=1∧t=s)∨(regL S'≠[]∧a=2∧t.data.toList=layP (regL S') 0 s.data.toList))))))
theorem bytes_ext{a b:ByteArray}(h:a.data.toList=b.data.toList):a=b:=ByteArray.ext (Array.toList_inj.1 h)
theorem RepD.unique{s t t':ByteArray}{a a' x x':Int}(h:RepD s t a x)(h':RepD s t' a' x'):a=a'∧t=t'∧x=x':=by
 rcases h with⟨b,h1,h2,rfl,rfl⟩|⟨b,F,h1,h2,h⟩
 ·rcases h' with⟨b',g1,g2,rfl,rfl⟩|⟨b',F',g1,g2,g⟩
  ·exact⟨rfl,rfl,(h1.unique g1).1⟩
  ·exact absurd (h1.unique g1).1 h2
 ·rcases h' with⟨b',g1,g2,rfl,rfl⟩|⟨b',F',g1,g2,g⟩
  ·exact absurd (h1.unique g1).1.symm g2
  ·have e:=h2.unique g2;subst e;rcases h with⟨m,rfl,rfl,rfl⟩|⟨m,h⟩
   ·rcases g with⟨_,rfl,rfl,rfl⟩|⟨m',_⟩
    ·exact⟨rfl,rfl,rfl⟩
    ·rw[m]at m';cases m'
   ·rcases g with⟨m',_⟩|⟨_,g⟩
    ·rw[m]at m';cases m'
    ·rcases h with⟨k,rfl,rfl,rfl⟩|⟨k,rfl,S',hS,h⟩
     ·rcases g with⟨_,rfl,rfl,rfl⟩|⟨k',_⟩
      ·exact⟨rfl,rfl,rfl⟩
      ·exact absurd k k'
     ·rcases g with⟨k',_⟩|⟨_,rfl,S2,hS2,g⟩
      ·exact absurd k' k
      ·have e:=hS.unique hS2;subst e;rcases h with⟨r,rfl,rfl⟩|⟨r,rfl,ht⟩
       ·rcases g with⟨_,rfl,rfl⟩|⟨r',_⟩
        ·exact⟨rfl,rfl,rfl⟩
        ·exact absurd r r'
       ·rcases g with⟨r',_⟩|⟨_,rfl,ht'⟩
        ·exact absurd r' r
        ·exact⟨rfl,bytes_ext (ht.trans ht'.symm),rfl⟩
set_option maxHeartbeats 3200000 in
set_option maxRecDepth 100000 in
theorem Repair_any(s:ByteArray)(w:World)(hs:s.size≤maxLen) :
  Calls Tryz.prog 37 #[.string s] w fun e w'=>∃a t x,e=.returned (.tuple #[.int .i64 a,.string t,.int .i64 x])∧(RepIs s t a x∧RepD s t a x)∧Below w.heap.size w w':=by
 go_enter Tryz.func37,Tryz.ntmps37
 go_wp2_with fail
 refine(read_any s w hs).mono ?_;intro e w1 hout;obtain⟨hb,v,a,b,rfl,hc,hcase⟩:=hout.says;clear hout;rcases hcase with⟨ha,rfl⟩|⟨rfl,hz,am,cm,F,rfl,hst,_,hown⟩
 ·have ha':(a != 0)=true:=by simpa using ha
  have HH:Hid (RepIs s ⟨#[]⟩ 0 a∧RepD s ⟨#[]⟩ 0 a):=⟨.err b hc ha rfl rfl,.inl ⟨b,hc,ha,rfl,rfl⟩⟩;clear hc ha;go_wp2
  go_ret3
  exact⟨0,_,a,rfl,HH.out,hb⟩
 ·have hacc:=hst.acc;have hcnt:=acc_count hacc;have hF:=hst.len;rw[len_eq]at hcnt hF;have hmn:=hst.mended;have HMN:Hid ((F.any fun s=>s.mend)=true↔(60:UInt8)∈s.data.toList):=hmn;have HC:Hid (ChkIs s 0 b):=hc;have HA:Hid (Acc s.data.toList (mksS F)):=hacc;have HW:Hid (w1.ownsRow w.heap.size 88 12 (.slice am F.length cm) F.length (stsV F)):=hown;have HB:Hid (Below w.heap.size w w1):=hb;have hFl:F.length≤1000:=by omega
  have HST:Hid (StepsOf s.data.toList F):=hst;clear hst hmn hc hacc hown hb
  go_wp2_with fail
  refine(hasMended_any w.heap.size am cm F w1 HW.out hFl).mono ?_;rintro e w2 ⟨rfl,rfl⟩;obtain⟨M,hM⟩:∃M,M=F.any fun s=>s.mend:=⟨_,rfl⟩
  have HMF:Hid (M=F.any fun s=>s.mend):=hM;rw[←hM]at HMN ⊢;clear hM;cases M with
  | true=>
   have HH:Hid (RepIs s ⟨#[]⟩ 0 5∧RepD s ⟨#[]⟩ 0 5):=⟨.mend b HC.out (HMN.out.1 rfl) rfl rfl rfl,.inr ⟨b,F,HC.out,HST.out,.inl ⟨HMF.out.symm,rfl,rfl,rfl⟩⟩⟩;go_wp2
   go_ret3
   exact⟨0,_,5,rfl,HH.out,HB.out⟩
  | false=>
   have h60:(60:UInt8)∉s.data.toList:=fun h=>by have:=HMN.out.2 h;cases this
   have H60:Hid ((60:UInt8)∉s.data.toList):=h60;clear h60
   go_wp2_with fail
   refine(accesses_any w.heap.size am cm F w2 HW.out hFl).mono ?_;rintro e w3 ⟨⟨al,cl,rfl,_⟩,hb3⟩;have HB3:Hid (Below w.heap.size w w3):=HB.out.trans (hb3.mono HB.out.size);have HW3:Hid (w3.ownsRow w.heap.size 88 12 (.slice am F.length cm) F.length (stsV F)):=ownsRow_later HW.out hb3;clear hb3;obtain⟨k,hk⟩:∃k,k=(accL (mksS F)).length:=⟨_,rfl⟩;have HK:Hid (k=(accL (mksS F)).length):=hk;have hkl:k≤1000:=by
    rw[hk,accS_mks,List.length_map];exact Nat.le_trans (accS_le F) hFl
   rw[←hk];clear hk
   by_cases h10:10<k
   ·have HH:Hid (RepIs s ⟨#[]⟩ 0 6∧RepD s ⟨#[]⟩ 0 6):=⟨.many b (mksS F) HC.out HA.out H60.out (.inl (by rw[←HK.out];exact h10)) rfl rfl rfl,.inr ⟨b,F,HC.out,HST.out,.inr ⟨HMF.out.symm,.inl ⟨.inl (by rw[←HK.out];exact h10),rfl,rfl,rfl⟩⟩⟩⟩;have d10:decide (10<k)=true:=by simpa using h10
    have d10':decide ((10:Int)<(k:Int))=true:=by simp;omega
    go_wp2
    go_ret3
    exact⟨0,_,6,rfl,HH.out,HB3.out⟩
   ·have d10:decide (10<k)=false:=by simpa using h10
    have d10':decide ((10:Int)<(k:Int))=false:=by simp;omega
    by_cases h200:200<s.size
    ·have HH:Hid (RepIs s ⟨#[]⟩ 0 6∧RepD s ⟨#[]⟩ 0 6):=⟨.many b (mksS F) HC.out HA.out H60.out (.inr h200) rfl rfl rfl,.inr ⟨b,F,HC.out,HST.out,.inr ⟨HMF.out.symm,.inl ⟨.inr h200,rfl,rfl,rfl⟩⟩⟩⟩;have d2:decide (200<s.size)=true:=by simpa using h200
     go_wp2
     go_ret3
     exact⟨0,_,6,rfl,HH.out,HB3.out⟩
    ·have d2:decide (200<s.size)=false:=by simpa using h200
     have hmd:=(chk_md HC.out).2;have HFW:Hid (Calls Tryz.prog 55 #[.slice am F.length cm] w3 fun e w'=>FewOut F w3 e w'):=fewest_any w.heap.size am cm F w3 HW3.out hFl (fun n hn hno=>some_found HA.out hmd H60.out hn hno);have HMD:Hid (∀a∈splitBar s.data.toList,MD [] [] a):=hmd;clear hmd
     go_wp2_with fail
     refine HFW.out.mono ?_;rintro e w4 ⟨S',n,ar,cr,han,rfl,hown,hfo,hno,hb4⟩;have HRD:Hid (∀t a,((regL S'=[]∧a=1∧t=s)∨(regL S'≠[]∧a=2∧t.data.toList=layP (regL S') 0 s.data.toList))→RepD s t a 0):=fun t a ht=>.inr ⟨b,F,HC.out,HST.out,.inr ⟨HMF.out.symm,.inr ⟨by rw[←HK.out];omega,rfl,S',han,ht⟩⟩⟩
     clear han;have HRG:Hid (RegsOf s.data.toList (mksS F) (regL S') (chX (accS F) (spots (accS F)) (lkS S'))):=found_regs HA.out HMD.out H60.out hfo hno;have HOW:Hid (w4.ownsRow w3.heap.size 149 2 (.slice ar (regL S').length cr) (regL S').length (rgV (regL S'))):=hown;have HB4:Hid (Below w.heap.size w w4):=HB3.out.trans (hb4.mono HB3.out.size);clear hown hfo hno hb4;obtain⟨R,hR⟩:∃R,R=regL S':=⟨_,rfl⟩;rw[←hR]at HRG HOW HRD ⊢;obtain⟨ch,hch⟩:∃ch,ch=chX (accS F) (spots (accS F)) (lkS S'):=⟨_,rfl⟩;rw[←hch]at HRG;clear hR hch;have hRl:R.length≤1000:=by have:=HRG.out.len;rw[←HK.out]at this;omega
     by_cases hR0:R=[]
     ·have HH:Hid (RepIs s s 1 0∧RepD s s 1 0):=⟨.ok b (mksS F) ch HC.out HA.out H60.out (by rw[←HK.out];omega) (by omega) HRG.out.least (by rw[←HRG.out.text,hR0,layP_nil]) rfl (.inl ⟨HRG.out.none.1 hR0,rfl,rfl⟩),HRD.out s 1 (.inl ⟨hR0,rfl,rfl⟩)⟩;have hRz:R.length=0:=by rw[hR0];rfl
      obtain⟨nR,hnR⟩:∃nR,nR=R.length:=⟨_,rfl⟩;rw[←hnR]at hRz ⊢;subst hRz;clear hnR hR0 HOW;go_wp2
      go_ret3
      exact⟨1,_,0,rfl,HH.out,HB4.out⟩
     ·have hRp:0<R.length:=List.length_pos_iff.2 hR0;obtain⟨o,ho⟩:∃o:ByteArray,o.data.toList=layP R 0 s.data.toList:=⟨⟨(layP R 0 s.data.toList).toArray⟩,rfl⟩;have HLD:Hid (Calls Tryz.prog 56 #[.string s,.slice ar R.length cr] w4 fun e w'=>e=.returned (.string o)∧Below w4.heap.size w4 w'):=laid_any s _ ar cr R w4 HOW.out (by omega) hRl HRG.out.lock (fun r hr=>by have:=HRG.out.place r hr;rw[len_eq]at this;omega) o ho;have HH:Hid (RepIs s o 2 0∧RepD s o 2 0):=⟨.ok b (mksS F) ch HC.out HA.out H60.out (by rw[←HK.out];omega) (by omega) HRG.out.least (by rw[ho];exact HRG.out.text) rfl (.inr ⟨fun h=>hR0 (HRG.out.none.2 h),rfl⟩),HRD.out o 2 (.inr ⟨hR0,rfl,ho⟩)⟩;obtain⟨nR,hnR⟩:∃nR,nR=R.length:=⟨_,rfl⟩;rw[←hnR]at hRp hRl HLD ⊢;have hne:((nR:Int)==0)=false:=by simp;omega
      clear hnR hR0 ho HOW
      go_wp2_with fail
      refine HLD.out.mono ?_;rintro e w5 ⟨rfl,hb5⟩;have HB5:Hid (Below w.heap.size w w5):=HB4.out.trans (hb5.mono HB4.out.size);clear hb5;go_wp2
      go_ret3
      exact⟨2,_,0,rfl,HH.out,HB5.out⟩
end Go.Proofs.YtdgkpkdinfklaabGreat
