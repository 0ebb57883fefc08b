import Derived.Test.YtdgkpkdinfklaabGreatGF
namespace Go.Proofs.YtdgkpkdinfklaabGreat
open Go.RowKit
def nm(h:Nat→Bool):Nat→List UInt8
 | 0=>[]
 | k+1=>nm h k++(if h k then [UInt8.ofNat (65+k)]else [])
theorem nm_len(h:Nat→Bool)(k:Nat):(nm h k).length≤k:=by
 induction k with
 | zero=>exact Nat.le_refl _
 | succ k ih=>
  rw[nm]
  split
  ·simp;omega
  ·simp;omega
def hOf(m:MK):Nat→Bool
 | 0=>m.h0
 | 1=>m.h1
 | 2=>m.h2
 | 3=>m.h3
 | _=>m.h4
def accV(m:MK):List Value:=[.int .i64 m.thread,.int .i64 m.place,.int .i64 m.num,.bool (m.kind==2),.string ⟨(nm (hOf m) 5).toArray⟩]
def isAcc(m:MK):Bool:=!(m.kind==3)
def accL(l:List MK):List MK:=l.filter isAcc
def accsV(l:List MK):List Value:=l.flatMap accV
theorem accsV_append(a b:List MK):accsV (a++b)=accsV a++accsV b:=by simp[accsV]
theorem ofNat_toNat(k:Nat)(h:k<5):((UInt8.ofNat (65+k)).toNat:Int)=65+(k:Int):=by
 rw[UInt8.toNat_ofNat_of_lt' (by show 65+k<256;omega)];omega
set_option maxHeartbeats 1600000 in
set_option maxRecDepth 100000 in
theorem lockNames_any(m:MK)(w:World) :
  Calls Tryz.prog 63 #[.agg #[.bool m.h0,.bool m.h1,.bool m.h2,.bool m.h3,.bool m.h4]] w fun e w'=>e=.returned (.string ⟨(nm (hOf m) 5).toArray⟩)∧Below w.heap.size w w':=by
 obtain⟨i0,hi0,hz0,hz1,hz2⟩:=info_parts Tryz.infoByte;obtain⟨H,hH⟩:∃H,H=w.heap.size:=⟨_,rfl⟩;have hcells:∀k,k<5→(w.alloc (.cells #[.bool m.h0,.bool m.h1,.bool m.h2,.bool m.h3,.bool m.h4] 76)).cell? ⟨w.heap.size,k,none⟩=some (.bool (hOf m k)):=by
  intro k hk;have h6:k=0∨k=1∨k=2∨k=3∨k=4:=by omega
  rcases h6 with rfl|rfl|rfl|rfl|rfl<;>(rw[World.cell?_alloc_at _ _ _ _ rfl];rfl)
 have HC:Hid (∀k,k<5→(w.alloc (.cells #[.bool m.h0,.bool m.h1,.bool m.h2,.bool m.h3,.bool m.h4] 76)).cell? ⟨w.heap.size,k,none⟩=some (.bool (hOf m k))):=hcells;clear hcells hH H
 go_enter Tryz.func63,Tryz.ntmps63
 go_wp2
 go_loopw [3,4] (fun v i wr=>∃k:Nat,k≤5∧i=.int .i64 k∧wr.ownsRow (w.heap.size+1) 5 1 v (nm (hOf m) k).length (byV (nm (hOf m) k))∧Below (w.heap.size+1) (w.alloc (.cells #[.bool m.h0,.bool m.h1,.bool m.h2,.bool m.h3,.bool m.h4] 76)) wr) (fun _ i _=>5-(intOf i).toNat)
 case atStart=>exact⟨0,by decide,rfl,World.ownsRow_nil _ _ _ _,Below.refl _ _⟩
 case round=>
  obtain⟨k,hk,rfl,hown,hbe⟩:=hrel;have HO:Hid (wr.ownsRow (w.heap.size+1) 5 1 u3 (nm (hOf m) k).length (byV (nm (hOf m) k))):=hown;have hl:=nm_len (hOf m) k;have hsz:=hbe.size;rw[show(w.alloc (.cells #[.bool m.h0,.bool m.h1,.bool m.h2,.bool m.h3,.bool m.h4] 76)).heap.size=w.heap.size+1 by simp]at hsz;clear hown
  by_cases hlt:k<5
  ·have hc:=(hbe.cell (p:=⟨w.heap.size,k,none⟩) (by simp)).trans (HC.out k hlt);have HB:Hid (Below (w.heap.size+1) (w.alloc (.cells #[.bool m.h0,.bool m.h1,.bool m.h2,.bool m.h3,.bool m.h4] 76)) wr):=hbe;clear hbe;cases hb:hOf m k with
   | true=>
    rw[hb]at hc;have HN:Hid (nm (hOf m) (k+1)=nm (hOf m) k++[UInt8.ofNat (65+k)]):=by show nm (hOf m) (k+1)=_;rw[nm,hb];rfl
    have HU:Hid (((UInt8.ofNat (65+k)).toNat:Int)=65+(k:Int)):=ofNat_toNat k hlt;clear hb;obtain⟨l,hll⟩:∃l,l=nm (hOf m) k:=⟨_,rfl⟩;rw[←hll]at HO hl HN;have HLL:Hid (l=nm (hOf m) k):=hll;clear hll
    go_wp2_with (at_builtin;refine wpList_append_own _ rfl (.tmp 12) (.tmp 16) 91 rfl (w.heap.size+1) 5 i0 _ 1 1 Tryz.underlying91 hi0 hz0 hz1 hz2 rfl (by decide) u3 l.length (byV l) rfl (HO.out.alloc _) ⟨wr.heap.size,0,none⟩ 1 1 [.int .u8 (65+(k:Int))] rfl rfl ?hnews ?h1 ?h63 ?hby ?hbase ?next)
    case hnews=>exact cell_one_new _ _ _
    case h1=>intro u hu;simp at hu;subst hu;rfl
    case h63=>unfold maxLen;omega
    case hby=>omega
    case hbase=>simp;omega
    case next=>
     intro v' w1 hown1 hgrow _;have hbe1:Hid (Below (w.heap.size+1) (w.alloc (.cells #[.bool m.h0,.bool m.h1,.bool m.h2,.bool m.h3,.bool m.h4] 76)) w1):=(HB.out.alloc (by omega) _).grown hgrow (by simp;omega) (fun q hq=>(HO.out.lt q hq).1);have HO1:Hid (w1.ownsRow (w.heap.size+1) 5 1 v' (nm (hOf m) (k+1)).length (byV (nm (hOf m) (k+1)))):=by
      show w1.ownsRow (w.heap.size+1) 5 1 v' (nm (hOf m) (k+1)).length (byV (nm (hOf m) (k+1)));rw[HN.out];have:byV (l++[UInt8.ofNat (65+k)])=byV l++[.int .u8 (65+(k:Int))]:=by
       simp only[byV,List.map_append,List.map_cons,List.map_nil];rw[HU.out]
      rw[this,List.length_append];exact hown1
     clear hown1 hgrow;go_wp2
     go_roundw
     case rel=>exact⟨k+1,by omega,by go_num,HO1.out,hbe1.out⟩
     case measure=>simp[intOf];omega
   | false=>
    rw[hb]at hc;have HN:Hid (nm (hOf m) (k+1)=nm (hOf m) k):=by show nm (hOf m) (k+1)=_;rw[nm,hb];simp
    clear hb;go_wp2
    go_roundw
    case rel=>exact⟨k+1,by omega,by go_num,by rw[HN.out];exact HO.out,HB.out⟩
    case measure=>simp[intOf];omega
  ·have hk5:k=5:=by omega
   subst hk5;have HB:Hid (Below w.heap.size w wr):=((Below.refl _ _).alloc (Nat.le_refl _) _).trans (hbe.mono (by omega));clear hbe hlt;obtain⟨l,hll⟩:∃l,l=nm (hOf m) 5:=⟨_,rfl⟩;have HLL:Hid (l=nm (hOf m) 5):=hll;rw[←hll]at HO hl;clear hll;rcases HO.out.2 with⟨hv,hn0⟩|⟨gb,cap,cur,hv,_⟩
   ·have ho:l=[]:=List.eq_nil_of_length_eq_zero hn0;subst hv;subst ho;have hcv:=fun(wx:World)=>run_convert_bytes_nil (P:=Tryz.prog) wx 91 5 Tryz.underlying91 Tryz.underlying5 0 0 9 Tryz.underlying9
    go_wp2;go_ret;exact⟨by rw[←HLL.out];rfl,HB.out⟩
   ·subst hv
    have hcv:=run_convert_bytes_back (P:=Tryz.prog) wr 91 9 5 ⟨gb,0,none⟩ cap l Tryz.underlying91 Tryz.underlying5 Tryz.underlying9 (fun j hj=>by
     rw[addr_at];have:=HO.out.cellAt j (by omega);rw[this]
     simp[byV,List.getElem?_eq_getElem hj])
    go_wp2;go_ret;exact⟨by rw[←HLL.out];rfl,HB.out⟩
theorem Tryz.infoAccess:(Tryz.prog.info? 47).map (fun i=>(i.zero,i.size,i.bytes))=some (some (.agg #[.int .i64 0,.int .i64 0,.int .i64 0,.bool false,.string ⟨#[]⟩]),5,48):=by kernel_rfl
theorem ownsRow_later{w w':World}{B e size n:Nat}{v:Value}{xs:List Value}(h:w.ownsRow B e size v n xs)(hb:Below w.heap.size w w'):w'.ownsRow B e size v n xs:=by
 refine⟨h.1,?_⟩;rcases h.2 with h0|⟨g,cap,cur,hv,hg,hh,r⟩
 ·exact .inl h0
 ·exact .inr ⟨g,cap,cur,hv,hg,by rw[hb.block g ((Array.getElem?_eq_some_iff.1 hh).1)];exact hh,r⟩
def mkAcc(m:ST):MK:=⟨m.kind,m.place,m.thread,m.num,m.h0,m.h1,m.h2,m.h3,m.h4⟩
theorem accL_snoc{l:List ST}{k:Nat}{m:ST}(h:l[k]?=some m):accL (mksS (l.take (k+1)))=accL (mksS (l.take k))++(if m.kind=1∨m.kind=2 then [mkAcc m]else []):=by
 obtain⟨hk,rfl⟩:=List.getElem?_eq_some_iff.1 h;rw[List.take_succ_eq_append_getElem hk,mksS_append,accL,List.filter_append]
 congr 1
 unfold mksS;rw[List.filterMap_cons,List.filterMap_nil]
 by_cases h6:l[k].kind=6
 ·have:¬(l[k].kind=1∨l[k].kind=2):=by omega
  rw[if_neg this];simp[mkS,h6,isAcc]
 ·by_cases h1:l[k].kind=1∨l[k].kind=2
  ·rw[if_pos h1];have h3:l[k].kind≠3:=by omega
   simp[mkS,h6,h1,isAcc,mkAcc,h3]
  ·rw[if_neg h1];simp[mkS,h6,h1]
theorem mksS_len(l:List ST):(mksS l).length≤l.length:=List.length_filterMap_le _ _
theorem markAt{w:World}{B:Nat}{g n cm:Nat}{mks:List ST}(h:w.ownsRow B 88 12 (.slice (some ⟨g,0,none⟩) mks.length cm) mks.length (stsV mks))(i:Nat)(m:ST)(hx:mks[i]?=some m)(j:Nat)(hj:j<12)(v:Value)(hv:(stV m)[j]?=some v)(_:n=n) :
  w.cell? ⟨g,i*12+j,none⟩=some v:=by
 have hi:i<mks.length:=(List.getElem?_eq_some_iff.1 hx).1;exact(h.cellAt (i*12+j) (by omega)).trans ((stsV_get mks i m hx j hj).trans hv)
set_option maxHeartbeats 800000 in
theorem isAccess_any(m:ST)(w:World) :
  Calls Tryz.prog 62 #[.agg #[.int .i64 m.kind,.int .i64 m.place,.int .i64 m.thread,.int .i64 m.num,.bool m.mend,.int .i64 m.nx,.int .i64 m.el,.bool m.h0,.bool m.h1,.bool m.h2,.bool m.h3,.bool m.h4]] w fun e w'=>e=.returned (.bool (m.kind==1||m.kind==2))∧Below w.heap.size w w':=by
 have B1:Hid (∀o,Below w.heap.size w (w.alloc o)):=fun o=>(Below.refl _ _).alloc (Nat.le_refl _) o
 go_enter Tryz.func62,Tryz.ntmps62
 by_cases h1:m.kind=1
 ·have b1:(m.kind==1)=true:=by simpa using h1
  rw[b1];clear h1;go_wp2;go_ret;exact⟨rfl,B1.out _⟩
 ·have b1:(m.kind==1)=false:=by simpa using h1
  rw[b1];clear h1;go_wp2;go_ret;exact⟨rfl,B1.out _⟩
def AccsOut(w w':World)(mks:List MK)(e:Ending):Prop:=
 ∃a c,e=.returned (.slice a (accL mks).length c)∧w'.ownsRow w.heap.size 47 5 (.slice a (accL mks).length c) (accL mks).length (accsV (accL mks))
set_option maxHeartbeats 1600000 in
set_option maxRecDepth 100000 in
theorem accesses_any(B:Nat)(am:Option Addr)(cm:Nat)(mks:List ST)(w:World)(h:w.ownsRow B 88 12 (.slice am mks.length cm) mks.length (stsV mks))(hlen:mks.length≤1000) :
  Calls Tryz.prog 43 #[.slice am mks.length cm] w fun e w'=>AccsOut w w' (mksS mks) e∧Below w.heap.size w w':=by
 obtain⟨i0,hi0,hz0,hz1,hz2⟩:=info_parts Tryz.infoAccess;have HM:Hid (w.ownsRow B 88 12 (.slice am mks.length cm) mks.length (stsV mks)):=h;clear h;obtain⟨n,hn⟩:∃n,n=mks.length:=⟨_,rfl⟩;have HN:Hid (n=mks.length):=hn;rw[←hn]at hlen ⊢;clear hn
 go_enter Tryz.func43,Tryz.ntmps43
 go_wp2
 go_loopw [3,4] (fun v i wr=>∃k:Nat,k≤n∧i=.int .i64 k∧wr.ownsRow w.heap.size 47 5 v (accL (mksS (mks.take k))).length (accsV (accL (mksS (mks.take k))))∧Below w.heap.size w wr) (fun _ i _=>n-(intOf i).toNat)
 case atStart=>exact⟨0,Nat.zero_le _,rfl,World.ownsRow_nil _ _ _ _,Below.refl _ _⟩
 case round=>
  obtain⟨k,hk,rfl,hown,hbe⟩:=hrel;have HO:Hid (wr.ownsRow w.heap.size 47 5 u3 (accL (mksS (mks.take k))).length (accsV (accL (mksS (mks.take k))))):=hown;have HB:Hid (Below w.heap.size w wr):=hbe;have hsz:=hbe.size;have hll:(accL (mksS (mks.take k))).length≤k:=by
   have h1:=List.length_filter_le isAcc (mksS (mks.take k));have h2:(mks.take k).length≤k:=List.length_take_le _ _;have h3:=mksS_len (mks.take k);exact Nat.le_trans h1 (Nat.le_trans h3 h2)
  have hm':=ownsRow_later HM.out hbe;clear hown hbe
  by_cases hlt:k<n
  ·obtain⟨m,hm⟩:∃m,mks[k]?=some m:=⟨mks[k]'(by rw[←HN.out];exact hlt),List.getElem?_eq_getElem _⟩;obtain⟨g,cap',hv,hb,_⟩:=HM.out.form (by rw[←HN.out];omega);cases hv;have q0:=markAt (n:=0) hm' k m hm 0 (by decide) _ rfl rfl;have q1:=markAt (n:=0) hm' k m hm 1 (by decide) _ rfl rfl;have q2:=markAt (n:=0) hm' k m hm 2 (by decide) _ rfl rfl;have q3:=markAt (n:=0) hm' k m hm 3 (by decide) _ rfl rfl;have q4:=markAt (n:=0) hm' k m hm 4 (by decide) _ rfl rfl;have q5:=markAt (n:=0) hm' k m hm 5 (by decide) _ rfl rfl;have q6:=markAt (n:=0) hm' k m hm 6 (by decide) _ rfl rfl;have q7:=markAt (n:=0) hm' k m hm 7 (by decide) _ rfl rfl;have q8:=markAt (n:=0) hm' k m hm 8 (by decide) _ rfl rfl;have q9:=markAt (n:=0) hm' k m hm 9 (by decide) _ rfl rfl;have q10:=markAt (n:=0) hm' k m hm 10 (by decide) _ rfl rfl;have q11:=markAt (n:=0) hm' k m hm 11 (by decide) _ rfl rfl;rw[Nat.add_zero]at q0;have hs:=accL_snoc hm;clear hm hm';have B1:Hid (Below w.heap.size w (wr.alloc (.cells #[.int .i64 m.kind,.int .i64 m.place,.int .i64 m.thread,.int .i64 m.num,.bool m.mend,.int .i64 m.nx,.int .i64 m.el,.bool m.h0,.bool m.h1,.bool m.h2,.bool m.h3,.bool m.h4] 88))):=HB.out.alloc hsz _
   by_cases hk3:¬(m.kind=1∨m.kind=2)
   ·have hb12:(m.kind==1||m.kind==2)=false:=by simp;omega
    have hs':accL (mksS (mks.take (k+1)))=accL (mksS (mks.take k)):=by rw[hs,if_neg hk3];simp
    have HS:Hid (accL (mksS (mks.take (k+1)))=accL (mksS (mks.take k))):=hs';clear hs hs' hk3
    go_wp2_with fail
    refine(isAccess_any m _).mono ?_;rintro e w0 ⟨rfl,hb0⟩;rw[hb12];have HO0:Hid (w0.ownsRow w.heap.size 47 5 u3 (accL (mksS (mks.take k))).length (accsV (accL (mksS (mks.take k))))):=ownsRow_later (HO.out.alloc _) hb0;have B0:Hid (Below w.heap.size w w0):=B1.out.trans (hb0.mono (by simp;omega));clear hb0;go_wp2
    go_roundw
    case rel=>exact⟨k+1,by omega,by go_num,by rw[HS.out];exact HO0.out,B0.out⟩
    case measure=>simp[intOf];omega
   ·have hk3:=Decidable.not_not.1 hk3;have hs':accL (mksS (mks.take (k+1)))=accL (mksS (mks.take k))++[mkAcc m]:=by rw[hs,if_pos hk3]
    have HS:Hid (accL (mksS (mks.take (k+1)))=accL (mksS (mks.take k))++[mkAcc m]):=hs';clear hs hs';have hb12:(m.kind==1||m.kind==2)=true:=by rcases hk3 with h|h<;>simp[h]
    clear hk3
    go_wp2_with fail
    refine(isAccess_any m _).mono ?_;rintro e w0 ⟨rfl,hb0⟩;rw[hb12];have hc0:=fun i=>hb0.cell (p:=⟨wr.heap.size,i,none⟩) (by simp)
    have HO0:Hid (w0.ownsRow w.heap.size 47 5 u3 (accL (mksS (mks.take k))).length (accsV (accL (mksS (mks.take k))))):=ownsRow_later (HO.out.alloc _) hb0;have B0:Hid (Below w.heap.size w w0):=B1.out.trans (hb0.mono (by simp;omega));have hsz0:=hb0.size;rw[show(wr.alloc (.cells #[.int .i64 m.kind,.int .i64 m.place,.int .i64 m.thread,.int .i64 m.num,.bool m.mend,.int .i64 m.nx,.int .i64 m.el,.bool m.h0,.bool m.h1,.bool m.h2,.bool m.h3,.bool m.h4] 88)).heap.size=wr.heap.size+1 by simp]at hsz0;have d:=fun(i:Nat) (v:Value) (hv:#[Value.int .i64 m.kind,.int .i64 m.place,.int .i64 m.thread,.int .i64 m.num,.bool m.mend,.int .i64 m.nx,.int .i64 m.el,.bool m.h0,.bool m.h1,.bool m.h2,.bool m.h3,.bool m.h4][i]?=some v)=>(hc0 i).trans ((World.cell?_alloc_at _ _ _ _ rfl).trans hv)
    have d0:=d 0 _ rfl;have d1:=d 1 _ rfl;have d2:=d 2 _ rfl;have d3:=d 3 _ rfl;have d7:=d 7 _ rfl;have d8:=d 8 _ rfl;have d9:=d 9 _ rfl;have d10:=d 10 _ rfl;have d11:=d 11 _ rfl;clear hb0 d hc0
    go_wp2_with fail
    refine(lockNames_any (mkAcc m) _).mono ?_;rintro e w1 ⟨rfl,hb1⟩;have hc1:=fun i=>hb1.cell (p:=⟨wr.heap.size,i,none⟩) (by simp;omega)
    have B2:Hid (Below w.heap.size w w1):=B0.out.trans (hb1.mono (by omega));have HO1:Hid (w1.ownsRow w.heap.size 47 5 u3 (accL (mksS (mks.take k))).length (accsV (accL (mksS (mks.take k))))):=ownsRow_later HO0.out hb1;have hsz1:=hb1.size;clear hb1;obtain⟨str,hstr⟩:∃str:ByteArray,str=⟨(nm (hOf (mkAcc m)) 5).toArray⟩:=⟨_,rfl⟩;rw[←hstr];have HSTR:Hid (str=⟨(nm (hOf (mkAcc m)) 5).toArray⟩):=hstr;clear hstr;obtain⟨L,hL⟩:∃L,L=accL (mksS (mks.take k)):=⟨_,rfl⟩;have HL:Hid (L=accL (mksS (mks.take k))):=hL;rw[←hL]at HO1 HO HS hll;clear hL
    go_wp2_with (at_builtin;refine wpList_append_own _ rfl (.tmp 23) (.tmp 35) 45 rfl w.heap.size 47 i0 _ 5 48 Tryz.underlying45 hi0 hz0 hz1 hz2 rfl (by decide) u3 L.length (accsV L) rfl (HO1.out.alloc _) ⟨w1.heap.size,0,none⟩ 1 1 [.int .i64 m.thread,.int .i64 m.place,.int .i64 m.num,.bool (m.kind==2),.string str] rfl rfl ?hnews ?h1 ?h63 ?hby ?hbase ?next)
    case hnews=>exact World.news_of_block (cs:=#[.int .i64 m.thread,.int .i64 m.place,.int .i64 m.num,.bool (m.kind==2),.string str]) (t:=47) (fr:=(0,0)) (heap_alloc_new _ _)
    case h1=>intro u hu;simp at hu;rcases hu with rfl|rfl|rfl|rfl|rfl<;>rfl
    case h63=>unfold maxLen;omega
    case hby=>omega
    case hbase=>simp;omega
    case next=>
     intro v' w2 hown2 hgrow _;have B3:Hid (Below w.heap.size w w2):=(B2.out.alloc (by omega) _).grown hgrow (by simp;omega) (fun q hq=>(HO1.out.lt q hq).1);have HO2:Hid (w2.ownsRow w.heap.size 47 5 v' (accL (mksS (mks.take (k+1)))).length (accsV (accL (mksS (mks.take (k+1)))))):=by
      show w2.ownsRow w.heap.size 47 5 v' (accL (mksS (mks.take (k+1)))).length (accsV (accL (mksS (mks.take (k+1)))));rw[HS.out,accsV_append,List.length_append];have e1:accsV [mkAcc m]=[.int .i64 m.thread,.int .i64 m.place,.int .i64 m.num,.bool (m.kind==2),.string str]:=by rw[HSTR.out];rfl
      rw[e1];exact hown2
     clear hown2 hgrow;go_wp2
     go_roundw
     case rel=>exact⟨k+1,by omega,by go_num,HO2.out,B3.out⟩
     case measure=>simp[intOf];omega
  ·have hkn:mks.take k=mks:=List.take_of_length_le (by rw[←HN.out];omega);have HO':Hid (wr.ownsRow w.heap.size 47 5 u3 (accL (mksS mks)).length (accsV (accL (mksS mks)))):=by
    have:=HO.out;rw[hkn]at this;exact this
   clear hkn HO hll hm';have hform:∃a c,u3=.slice a (accL (mksS mks)).length c:=by
    rcases HO'.out.2 with⟨hv,h0⟩|⟨g,cap,cur,hv,_⟩
    ·exact⟨none,0,by rw[hv,h0]⟩
    ·exact⟨_,_,hv⟩
   obtain⟨a,c,rfl⟩:=hform;go_wp2;go_ret;exact⟨⟨a,c,rfl,HO'.out⟩,HB.out⟩
def ListIs(w w':World)(s:ByteArray)(v:Value)(a:Int):Prop:=
 ∃b,ChkIs s a b∧((a≠0∧v=.slice none 0 0)∨(a=0∧s.size≤240∧∃mks x c,Acc s.data.toList mks∧mks.length≤1000∧v=.slice x (accL mks).length c∧w'.ownsRow w.heap.size 47 5 (.slice x (accL mks).length c) (accL mks).length (accsV (accL mks))))
theorem tw_count(p:List UInt8)(k:Nat):(tw p k).mks.length≤(tw p k).i:=by
 induction k with
 | zero=>exact Nat.le_refl _
 | succ k ih=>
  by_cases hlt:(tw p k).i<p.length
  ·obtain⟨t1,_,_,t4⟩:=tw_at hlt (List.getElem?_eq_getElem hlt);have:=sizeU_pos p[(tw p k).i];rw[t1,t4]
   split
   ·simp;omega
   ·split
    ·simp;omega
    ·omega
  ·rw[tw,if_neg hlt];exact ih
theorem acc_count{p:List UInt8}{mks:List MK}(h:Acc p mks):mks.length≤p.length:=by
 obtain⟨_,⟨k,n,t,hk⟩,_⟩:=h;have:=tw_count p k;rw[hk]at this;exact this
set_option maxHeartbeats 800000 in
theorem Accesses_any(s:ByteArray)(w:World)(hs:s.size≤maxLen) :
  Calls Tryz.prog 24 #[.string s] w fun e w'=>∃v a,e=.returned (.tuple #[v,.int .i64 a])∧ListIs w w' s v a∧Below w.heap.size w w':=by
 go_enter Tryz.func24,Tryz.ntmps24
 go_wp2_with fail
 refine(read_any s w hs).mono ?_;intro e w1 hout;obtain⟨hb,v,a,b,rfl,hc,hcase⟩:=hout.says;clear hout;rcases hcase with⟨ha,rfl⟩|⟨rfl,hz,am,cm,F,rfl,hst,_,hown⟩
 ·have ha':(a != 0)=true:=by simpa using ha
  have HH:Hid (ListIs w w1 s (.slice none 0 0) a):=⟨b,hc,.inl ⟨ha,rfl⟩⟩;clear hc ha;go_wp2
  go_ret2
  exact⟨_,a,rfl,HH.out,hb⟩
 ·have hacc:=hst.acc;have hcnt:=acc_count hacc;have hF:=hst.len;rw[len_eq]at hcnt hF;clear hst;have HC:Hid (ChkIs s 0 b):=hc;have HA:Hid (Acc s.data.toList (mksS F)):=hacc;clear hc hacc
  go_wp2_with fail
  refine(accesses_any w.heap.size am cm F w1 hown (by omega)).mono ?_;rintro e w2 ⟨⟨x,c,rfl,hown2⟩,hb2⟩;have HH:Hid (ListIs w w2 s (.slice x (accL (mksS F)).length c) 0):=⟨b,HC.out,.inr ⟨rfl,hz,mksS F,x,c,HA.out,by omega,rfl,ownsRow_lower hown2 hb.size⟩⟩;have HB:Hid (Below w.heap.size w w2):=hb.trans (hb2.mono hb.size);clear hown hown2 hb hb2;go_wp2
  go_ret2
  exact⟨_,0,rfl,HH.out,HB.out⟩
def sortF(now:List UInt8)(j:Nat):Bool:=inU now (UInt8.ofNat (65+j))
theorem nm_congr{h h':Nat→Bool}(k:Nat)(e:∀j,j<k→h j=h' j):nm h k=nm h' k:=by
 induction k with
 | zero=>rfl
 | succ k ih=>rw[nm,nm,ih (fun j hj=>e j (by omega)),e k (by omega)]
theorem nm_yes{h:Nat→Bool}{k:Nat}(e:h k=true):nm h (k+1)=nm h k++[UInt8.ofNat (65+k)]:=by rw[nm,e];rfl
theorem nm_no{h:Nat→Bool}{k:Nat}(e:h k=false):nm h (k+1)=nm h k:=by rw[nm,e];simp
def SortedAt(now:List UInt8)(k:Nat)(o:ByteArray):Prop:=o.data.toList=nm (sortF now) k
set_option maxHeartbeats 1600000 in
set_option maxRecDepth 100000 in
theorem sorted_any(now:ByteArray)(w:World)(hn:now.size≤100000) :
  Calls Tryz.prog 64 #[.string now] w fun e w'=>e=.returned (.string ⟨(nm (sortF now.data.toList) 5).toArray⟩)∧w'=w:=by
 go_enter Tryz.func64,Tryz.ntmps64
 go_wp2
 go_loop [3,4] (fun ov i=>∃(k:Nat) (o:ByteArray),k≤5∧i=.int .i64 k∧ov=.string o∧o.size≤k∧SortedAt now.data.toList k o) (fun _ i=>5-(intOf i).toNat)
 case atStart=>exact⟨0,⟨#[]⟩,by decide,rfl,rfl,by decide,rfl⟩
 case round=>
  obtain⟨k,o,hk,rfl,rfl,hos,hon⟩:=hrel;have h6:k=0∨k=1∨k=2∨k=3∨k=4∨k=5:=by omega
  rcases h6 with rfl|rfl|rfl|rfl|rfl|rfl
  ·have HON:Hid (SortedAt now.data.toList 0 o):=hon;clear hon;cases hin:sortF now.data.toList 0 with
   | true=>
    have HN:Hid (nm (sortF now.data.toList) 1=nm (sortF now.data.toList) 0++[UInt8.ofNat (65+0)]):=nm_yes hin;have HIN:Hid (sortF now.data.toList 0=true):=hin;clear hin
    go_wp2_with fail
    refine(in_any now _ _ (by unfold maxLen;omega)).mono ?_;rintro e w' ⟨rfl,rfl⟩;rw[show inU now.data.toList (ByteArray.mk #[65,66,67,68,69])[0]=true from HIN.out];go_wp2
    go_round
    case rel=>
     refine⟨1,o++(ByteArray.mk #[65,66,67,68,69]).extract 0 1,by decide,rfl,rfl,?_,?_⟩
     ·rw[ByteArray.size_append];have:((ByteArray.mk #[65,66,67,68,69]).extract 0 1).size=1:=by decide
      omega
     ·show(o++(ByteArray.mk #[65,66,67,68,69]).extract 0 1).data.toList=_;rw[cat_data,HN.out,show o.data.toList=nm (sortF now.data.toList) 0 from HON.out];rfl
    case measure=>simp[intOf]
   | false=>
    have HN:Hid (nm (sortF now.data.toList) 1=nm (sortF now.data.toList) 0):=nm_no hin;have HIN:Hid (sortF now.data.toList 0=false):=hin;clear hin
    go_wp2_with fail
    refine(in_any now _ _ (by unfold maxLen;omega)).mono ?_;rintro e w' ⟨rfl,rfl⟩;rw[show inU now.data.toList (ByteArray.mk #[65,66,67,68,69])[0]=false from HIN.out];go_wp2
    go_round
    case rel=>
     refine⟨1,o,by decide,rfl,rfl,by omega,?_⟩;show o.data.toList=_;rw[HN.out];exact HON.out
    case measure=>simp[intOf]
  ·have HON:Hid (SortedAt now.data.toList 1 o):=hon;clear hon;cases hin:sortF now.data.toList 1 with
   | true=>
    have HN:Hid (nm (sortF now.data.toList) 2=nm (sortF now.data.toList) 1++[UInt8.ofNat (65+1)]):=nm_yes hin;have HIN:Hid (sortF now.data.toList 1=true):=hin;clear hin
    go_wp2_with fail
    refine(in_any now _ _ (by unfold maxLen;omega)).mono ?_;rintro e w' ⟨rfl,rfl⟩;rw[show inU now.data.toList (ByteArray.mk #[65,66,67,68,69])[1]=true from HIN.out];go_wp2
    go_round
    case rel=>
     refine⟨2,o++(ByteArray.mk #[65,66,67,68,69]).extract 1 2,by decide,rfl,rfl,?_,?_⟩
     ·rw[ByteArray.size_append];have:((ByteArray.mk #[65,66,67,68,69]).extract 1 2).size=1:=by decide
      omega
     ·show(o++(ByteArray.mk #[65,66,67,68,69]).extract 1 2).data.toList=_;rw[cat_data,HN.out,show o.data.toList=nm (sortF now.data.toList) 1 from HON.out];rfl
    case measure=>simp[intOf]
   | false=>
    have HN:Hid (nm (sortF now.data.toList) 2=nm (sortF now.data.toList) 1):=nm_no hin;have HIN:Hid (sortF now.data.toList 1=false):=hin;clear hin
    go_wp2_with fail
    refine(in_any now _ _ (by unfold maxLen;omega)).mono ?_;rintro e w' ⟨rfl,rfl⟩;rw[show inU now.data.toList (ByteArray.mk #[65,66,67,68,69])[1]=false from HIN.out];go_wp2
    go_round
    case rel=>
     refine⟨2,o,by decide,rfl,rfl,by omega,?_⟩;show o.data.toList=_;rw[HN.out];exact HON.out
    case measure=>simp[intOf]
  ·have HON:Hid (SortedAt now.data.toList 2 o):=hon;clear hon;cases hin:sortF now.data.toList 2 with
   | true=>
    have HN:Hid (nm (sortF now.data.toList) 3=nm (sortF now.data.toList) 2++[UInt8.ofNat (65+2)]):=nm_yes hin;have HIN:Hid (sortF now.data.toList 2=true):=hin;clear hin
    go_wp2_with fail
    refine(in_any now _ _ (by unfold maxLen;omega)).mono ?_;rintro e w' ⟨rfl,rfl⟩;rw[show inU now.data.toList (ByteArray.mk #[65,66,67,68,69])[2]=true from HIN.out];go_wp2
    go_round
    case rel=>
     refine⟨3,o++(ByteArray.mk #[65,66,67,68,69]).extract 2 3,by decide,rfl,rfl,?_,?_⟩
     ·rw[ByteArray.size_append];have:((ByteArray.mk #[65,66,67,68,69]).extract 2 3).size=1:=by decide
      omega
     ·show(o++(ByteArray.mk #[65,66,67,68,69]).extract 2 3).data.toList=_;rw[cat_data,HN.out,show o.data.toList=nm (sortF now.data.toList) 2 from HON.out];rfl
    case measure=>simp[intOf]
   | false=>
    have HN:Hid (nm (sortF now.data.toList) 3=nm (sortF now.data.toList) 2):=nm_no hin;have HIN:Hid (sortF now.data.toList 2=false):=hin;clear hin
    go_wp2_with fail
    refine(in_any now _ _ (by unfold maxLen;omega)).mono ?_;rintro e w' ⟨rfl,rfl⟩;rw[show inU now.data.toList (ByteArray.mk #[65,66,67,68,69])[2]=false from HIN.out];go_wp2
    go_round
    case rel=>
     refine⟨3,o,by decide,rfl,rfl,by omega,?_⟩;show o.data.toList=_;rw[HN.out];exact HON.out
    case measure=>simp[intOf]
  ·have HON:Hid (SortedAt now.data.toList 3 o):=hon;clear hon;cases hin:sortF now.data.toList 3 with
   | true=>
    have HN:Hid (nm (sortF now.data.toList) 4=nm (sortF now.data.toList) 3++[UInt8.ofNat (65+3)]):=nm_yes hin;have HIN:Hid (sortF now.data.toList 3=true):=hin;clear hin
    go_wp2_with fail
    refine(in_any now _ _ (by unfold maxLen;omega)).mono ?_;rintro e w' ⟨rfl,rfl⟩;rw[show inU now.data.toList (ByteArray.mk #[65,66,67,68,69])[3]=true from HIN.out];go_wp2
    go_round
    case rel=>
     refine⟨4,o++(ByteArray.mk #[65,66,67,68,69]).extract 3 4,by decide,rfl,rfl,?_,?_⟩
     ·rw[ByteArray.size_append];have:((ByteArray.mk #[65,66,67,68,69]).extract 3 4).size=1:=by decide
      omega
     ·show(o++(ByteArray.mk #[65,66,67,68,69]).extract 3 4).data.toList=_;rw[cat_data,HN.out,show o.data.toList=nm (sortF now.data.toList) 3 from HON.out];rfl
    case measure=>simp[intOf]
   | false=>
    have HN:Hid (nm (sortF now.data.toList) 4=nm (sortF now.data.toList) 3):=nm_no hin;have HIN:Hid (sortF now.data.toList 3=false):=hin;clear hin
    go_wp2_with fail
    refine(in_any now _ _ (by unfold maxLen;omega)).mono ?_;rintro e w' ⟨rfl,rfl⟩;rw[show inU now.data.toList (ByteArray.mk #[65,66,67,68,69])[3]=false from HIN.out];go_wp2
    go_round
    case rel=>
     refine⟨4,o,by decide,rfl,rfl,by omega,?_⟩;show o.data.toList=_;rw[HN.out];exact HON.out
    case measure=>simp[intOf]
  ·have HON:Hid (SortedAt now.data.toList 4 o):=hon;clear hon;cases hin:sortF now.data.toList 4 with
   | true=>
    have HN:Hid (nm (sortF now.data.toList) 5=nm (sortF now.data.toList) 4++[UInt8.ofNat (65+4)]):=nm_yes hin;have HIN:Hid (sortF now.data.toList 4=true):=hin;clear hin
    go_wp2_with fail
    refine(in_any now _ _ (by unfold maxLen;omega)).mono ?_;rintro e w' ⟨rfl,rfl⟩;rw[show inU now.data.toList (ByteArray.mk #[65,66,67,68,69])[4]=true from HIN.out];go_wp2
    go_round
    case rel=>
     refine⟨5,o++(ByteArray.mk #[65,66,67,68,69]).extract 4 5,by decide,rfl,rfl,?_,?_⟩
     ·rw[ByteArray.size_append];have:((ByteArray.mk #[65,66,67,68,69]).extract 4 5).size=1:=by decide
      omega
     ·show(o++(ByteArray.mk #[65,66,67,68,69]).extract 4 5).data.toList=_;rw[cat_data,HN.out,show o.data.toList=nm (sortF now.data.toList) 4 from HON.out];rfl
    case measure=>simp[intOf]
   | false=>
    have HN:Hid (nm (sortF now.data.toList) 5=nm (sortF now.data.toList) 4):=nm_no hin;have HIN:Hid (sortF now.data.toList 4=false):=hin;clear hin
    go_wp2_with fail
    refine(in_any now _ _ (by unfold maxLen;omega)).mono ?_;rintro e w' ⟨rfl,rfl⟩;rw[show inU now.data.toList (ByteArray.mk #[65,66,67,68,69])[4]=false from HIN.out];go_wp2
    go_round
    case rel=>
     refine⟨5,o,by decide,rfl,rfl,by omega,?_⟩;show o.data.toList=_;rw[HN.out];exact HON.out
    case measure=>simp[intOf]
  ·have HON:Hid (SortedAt now.data.toList 5 o):=hon;clear hon;go_wp2;go_ret;refine⟨?_,rfl⟩;rw[←show o.data.toList=nm (sortF now.data.toList) 5 from HON.out];rfl
theorem tw_th(p:List UInt8)(k:Nat):1≤(tw p k).th∧(tw p k).th≤(tw p k).i+1:=by
 induction k with
 | zero=>exact⟨show(1:Int)≤1 by decide,show(1:Int)≤((0:Nat):Int)+1 by decide⟩
 | succ k ih=>
  by_cases hlt:(tw p k).i<p.length
  ·obtain⟨t1,_,t3,_⟩:=tw_at hlt (List.getElem?_eq_getElem hlt);have:=sizeU_pos p[(tw p k).i];rw[t1,t3]
   split<;>omega
  ·rw[tw,if_neg hlt];exact ih
theorem hOf_mkN(kind place th num:Int)(now:List UInt8):nm (hOf (mkN kind place th num now)) 5=nm (sortF now) 5:=by
 refine nm_congr 5 fun j hj=>?_
 have h6:j=0∨j=1∨j=2∨j=3∨j=4:=by omega
 rcases h6 with rfl|rfl|rfl|rfl|rfl<;>rfl
theorem heldU_same{now p:List UInt8}{i:Nat}{c:UInt8}(hc:p[i]?=some c)(h:¬(c=91∨c=60)∧¬(c=93∨c=62)):heldU now p i=now:=by
 simp[heldU,hc,h.1,h.2]
structure Listing(s:ByteArray)(w wr:World)(v:Value)(k j:Nat)(now:ByteArray):Prop where
 at_:(tw s.data.toList j).i=k
 nw:(tw s.data.toList j).now=now.data.toList
 small:now.size≤k
 le:k≤s.size
 row:wr.ownsRow w.heap.size 47 5 v (accL (tw s.data.toList j).mks).length (accsV (accL (tw s.data.toList j).mks))
 below:Below w.heap.size w wr
set_option maxHeartbeats 3200000 in
set_option maxRecDepth 100000 in
theorem list_any(s:ByteArray)(mks:List MK)(w:World)(h:s.size≤240)(ha:Acc s.data.toList mks) :
  Calls Tryz.prog 44 #[.string s] w fun e w'=>AccsOut w w' mks e∧Below w.heap.size w w':=by
 obtain⟨i0,hi0,hz0,hz1,hz2⟩:=info_parts Tryz.infoAccess;have HA:Hid (Acc s.data.toList mks):=ha;clear ha
 go_enter Tryz.func44,Tryz.ntmps44
 go_wp2
 go_loopw [3,4,5,6] (fun v nw th i wr=>∃(k j:Nat) (now:ByteArray),i=.int .i64 k∧nw=.string now∧th=.int .i64 (tw s.data.toList j).th∧Listing s w wr v k j now) (fun _ _ _ i _=>s.size-(intOf i).toNat)
 case atStart=>exact⟨0,0,⟨#[]⟩,rfl,rfl,rfl,rfl,rfl,by decide,Nat.zero_le _,World.ownsRow_nil _ _ _ _,Below.refl _ _⟩
 case round=>
  obtain⟨k,j,now,rfl,rfl,rfl,hL⟩:=hrel;obtain⟨hki,hkn,hns,hks,hrow,hbe⟩:=hL
  by_cases hlt:k<s.size
  ·have hlt':(tw s.data.toList j).i<s.data.toList.length:=by rw[hki,len_eq];exact hlt
   have hc:s.data.toList[(tw s.data.toList j).i]?=some s[k]:=by rw[hki];exact byteAt s k hlt
   obtain⟨t1,t2,t3,t4⟩:=tw_at hlt' hc;obtain⟨room,_⟩:=acc_room HA.out hlt' hc;have hth:=tw_th s.data.toList j;have hcnt:=tw_count s.data.toList j;rw[hki]at hth hcnt;rw[hki,len_eq]at room;rw[hki]at t1 t2 t4;rw[hkn]at t2 t4;have hcnt2:(accL (tw s.data.toList j).mks).length≤k:=Nat.le_trans (List.length_filter_le _ _) hcnt;have hlen2:=heldU_len now.data.toList s.data.toList k;rw[len_eq]at hlen2;obtain⟨z,hzz⟩:∃z,z=sizeU s[k]:=⟨_,rfl⟩;have hzp:=sizeU_pos s[k];rw[←hzz]at room hzp t1;have hsz2:s[k]=91∨s[k]=60→k+1<s.size:=by
    intro h';have:z=2:=by rw[hzz];rcases h' with h'|h'<;>rw[h']<;>rfl
    omega
   have HSZ2:Hid (s[k]=91∨s[k]=60→k+1<s.size):=hsz2;have HZ:Hid (z=sizeU s[k]):=hzz;have T1:Hid ((tw s.data.toList (j+1)).i=k+z):=t1;have T2:Hid ((tw s.data.toList (j+1)).now=heldU now.data.toList s.data.toList k):=t2;have T3:Hid ((tw s.data.toList (j+1)).th=if s[k]=124 then(tw s.data.toList j).th+1 else(tw s.data.toList j).th):=t3;have HROW:Hid (wr.ownsRow w.heap.size 47 5 u3 (accL (tw s.data.toList j).mks).length (accsV (accL (tw s.data.toList j).mks))):=hrow;have HB:Hid (Below w.heap.size w wr):=hbe;have hsz:=hbe.size;have HLEN:Hid ((heldU now.data.toList s.data.toList k).length≤now.size+1):=hlen2;have hbk:=byteAt s k hlt;obtain⟨th,hthe⟩:∃th,th=(tw s.data.toList j).th:=⟨_,rfl⟩;rw[←hthe]at hth T3 t4;have HTHE:Hid (th=(tw s.data.toList j).th):=hthe;rw[←HTHE.out];clear t1 t2 t3 hki hkn hrow hbe hlt' hc hcnt hsz2 hlen2 hthe hzz
   by_cases hgp:s[k]=103∨s[k]=112
   ·have hzt:z=2:=by rw[HZ.out];rcases hgp with h'|h'<;>rw[h']<;>rfl
    have hk1:k+1<s.size:=by omega
    have hd:s.data.toList[k+1]?=some s[k+1]:=byteAt s (k+1) hk1;have hd256:(s[k+1].toNat:Int)<256:=by have:=s[k+1].toNat_lt;omega
    have hd0:(0:Int)≤(s[k+1].toNat:Int):=by omega
    have hnb:¬(s[k]=91∨s[k]=60)∧¬(s[k]=93∨s[k]=62):=by rcases hgp with h'|h'<;>rw[h']<;>decide
    rw[if_neg hnb.1,if_pos hgp,hd]at t4;simp only[Option.getD_some]at t4;obtain⟨m,hm⟩:∃m,m=mkN (if s[k]=112 then 2 else 1) k th ((s[k+1].toNat:Int)-120) now.data.toList:=⟨_,rfl⟩;rw[←hm]at t4;have hacc:isAcc m=true:=by rw[hm];simp only[isAcc,mkN];split<;>rfl
    have T4:Hid (accL (tw s.data.toList (j+1)).mks=accL (tw s.data.toList j).mks++[m]):=by
     show accL (tw s.data.toList (j+1)).mks=_;rw[t4,accL,List.filter_append];simp[accL,hacc]
    obtain⟨pb,p103,p112⟩:∃pb:Bool,((s[k].toNat:Int)==103)=!pb∧((s[k].toNat:Int)==112)=pb:=by
     rcases hgp with h'|h'
     ·exact⟨false,by rw[h'];rfl,by rw[h'];rfl⟩
     ·exact⟨true,by rw[h'];rfl,by rw[h'];rfl⟩
    have HV:Hid (accV m=[.int .i64 th,.int .i64 k,.int .i64 ((s[k+1].toNat:Int)-120),.bool pb,.string ⟨(nm (sortF now.data.toList) 5).toArray⟩]):=by
     show accV m=_;rw[accV,hm,hOf_mkN,←p112];rcases hgp with h'|h'<;>rw[h']<;>rfl
    have HSAME:Hid (heldU now.data.toList s.data.toList k=now.data.toList):=heldU_same hbk hnb;have b124:((s[k].toNat:Int)==124)=false:=by rcases hgp with h'|h'<;>rw[h']<;>rfl
    have hn124:s[k]≠124:=by rcases hgp with h'|h'<;>rw[h']<;>decide
    have T3':Hid ((tw s.data.toList (j+1)).th=th):=by have:=T3.out;rw[if_neg hn124]at this;exact this
    obtain⟨L,hLL⟩:∃L,L=accL (tw s.data.toList j).mks:=⟨_,rfl⟩;rw[←hLL]at HROW T4 hcnt2;have HLL:Hid (L=accL (tw s.data.toList j).mks):=hLL;have HZ2:Hid (z=2):=hzt;clear t4 hm hacc hn124 T3 hd hnb hbk hLL hzt hgp;cases pb with
    | false=>
     rw[Bool.not_false]at p103
     go_wp2_with fail
     refine(held_any now s k _ (by omega) (by omega) hlt HSZ2.out).mono ?_;rintro e w' ⟨g,rfl,hg,hw'⟩;have HG:Hid (g.data.toList=now.data.toList):=hg.trans HSAME.out;have hgs:g.size≤k:=by
      have e1:g.data.toList.length=g.size:=len_eq g;rw[HG.out,len_eq]at e1;omega
     rw[hw'];clear hg hw'
     go_wp2_with fail
     refine(sorted_any g _ (by omega)).mono ?_;rintro e w' ⟨rfl,hw'⟩;rw[hw'];clear hw';obtain⟨str,hstr⟩:∃str:ByteArray,str=⟨(nm (sortF g.data.toList) 5).toArray⟩:=⟨_,rfl⟩;rw[←hstr];have HSTR:Hid (str=⟨(nm (sortF now.data.toList) 5).toArray⟩):=by
      show str=_;rw[hstr,HG.out]
     clear hstr
     go_wp2_with (at_builtin;refine wpList_append_own _ rfl (.tmp 38) (.tmp 51) 45 rfl w.heap.size 47 i0 _ 5 48 Tryz.underlying45 hi0 hz0 hz1 hz2 rfl (by decide) u3 L.length (accsV L) rfl (HROW.out.alloc _) ⟨wr.heap.size,0,none⟩ 1 1 [.int .i64 th,.int .i64 k,.int .i64 ((s[k+1].toNat:Int)-120),.bool false,.string str] rfl rfl ?hnews ?h1 ?h63 ?hby ?hbase ?next)
     case hnews=>exact World.news_of_block (cs:=#[.int .i64 th,.int .i64 k,.int .i64 ((s[k+1].toNat:Int)-120),.bool false,.string str]) (t:=47) (fr:=(0,0)) (heap_alloc_new _ _)
     case h1=>intro u hu;simp at hu;rcases hu with rfl|rfl|rfl|rfl|rfl<;>rfl
     case h63=>unfold maxLen;omega
     case hby=>omega
     case hbase=>simp;omega
     case next=>
      intro v' w2 hown2 hgrow _;have B3:Hid (Below w.heap.size w w2):=(HB.out.alloc (by omega) _).grown hgrow (by simp;omega) (fun q hq=>(HROW.out.lt q hq).1);have HO2:Hid (w2.ownsRow w.heap.size 47 5 v' (accL (tw s.data.toList (j+1)).mks).length (accsV (accL (tw s.data.toList (j+1)).mks))):=by
       show w2.ownsRow w.heap.size 47 5 v' (accL (tw s.data.toList (j+1)).mks).length (accsV (accL (tw s.data.toList (j+1)).mks));rw[T4.out,accsV_append,List.length_append];have e1:accsV [m]=[.int .i64 th,.int .i64 k,.int .i64 ((s[k+1].toNat:Int)-120),.bool false,.string str]:=by
        rw[accsV,List.flatMap_cons,List.flatMap_nil,List.append_nil,HV.out,HSTR.out]
       rw[e1];exact hown2
      clear hown2 hgrow
      go_wp2_with fail
      refine(size_any s[k] _).mono ?_;rintro e w' ⟨rfl,hw'⟩;rw[hw',←HZ.out,HZ2.out];clear hw';go_wp2
      go_roundw
      case rel=>
       refine⟨k+2,j+1,g,by go_num,rfl,by rw[T3'.out],by rw[T1.out,HZ2.out],?_,by omega,by omega,HO2.out,B3.out⟩;rw[T2.out,HSAME.out,HG.out]
      case measure=>simp[intOf];omega
    | true=>
     rw[Bool.not_true]at p103
     go_wp2_with fail
     refine(held_any now s k _ (by omega) (by omega) hlt HSZ2.out).mono ?_;rintro e w' ⟨g,rfl,hg,hw'⟩;have HG:Hid (g.data.toList=now.data.toList):=hg.trans HSAME.out;have hgs:g.size≤k:=by
      have e1:g.data.toList.length=g.size:=len_eq g;rw[HG.out,len_eq]at e1;omega
     rw[hw'];clear hg hw'
     go_wp2_with fail
     refine(sorted_any g _ (by omega)).mono ?_;rintro e w' ⟨rfl,hw'⟩;rw[hw'];clear hw';obtain⟨str,hstr⟩:∃str:ByteArray,str=⟨(nm (sortF g.data.toList) 5).toArray⟩:=⟨_,rfl⟩;rw[←hstr];have HSTR:Hid (str=⟨(nm (sortF now.data.toList) 5).toArray⟩):=by
      show str=_;rw[hstr,HG.out]
     clear hstr
     go_wp2_with (at_builtin;refine wpList_append_own _ rfl (.tmp 38) (.tmp 51) 45 rfl w.heap.size 47 i0 _ 5 48 Tryz.underlying45 hi0 hz0 hz1 hz2 rfl (by decide) u3 L.length (accsV L) rfl (HROW.out.alloc _) ⟨wr.heap.size,0,none⟩ 1 1 [.int .i64 th,.int .i64 k,.int .i64 ((s[k+1].toNat:Int)-120),.bool true,.string str] rfl rfl ?hnews ?h1 ?h63 ?hby ?hbase ?next)
     case hnews=>exact World.news_of_block (cs:=#[.int .i64 th,.int .i64 k,.int .i64 ((s[k+1].toNat:Int)-120),.bool true,.string str]) (t:=47) (fr:=(0,0)) (heap_alloc_new _ _)
     case h1=>intro u hu;simp at hu;rcases hu with rfl|rfl|rfl|rfl|rfl<;>rfl
     case h63=>unfold maxLen;omega
     case hby=>omega
     case hbase=>simp;omega
     case next=>
      intro v' w2 hown2 hgrow _;have B3:Hid (Below w.heap.size w w2):=(HB.out.alloc (by omega) _).grown hgrow (by simp;omega) (fun q hq=>(HROW.out.lt q hq).1);have HO2:Hid (w2.ownsRow w.heap.size 47 5 v' (accL (tw s.data.toList (j+1)).mks).length (accsV (accL (tw s.data.toList (j+1)).mks))):=by
       show w2.ownsRow w.heap.size 47 5 v' (accL (tw s.data.toList (j+1)).mks).length (accsV (accL (tw s.data.toList (j+1)).mks));rw[T4.out,accsV_append,List.length_append];have e1:accsV [m]=[.int .i64 th,.int .i64 k,.int .i64 ((s[k+1].toNat:Int)-120),.bool true,.string str]:=by
        rw[accsV,List.flatMap_cons,List.flatMap_nil,List.append_nil,HV.out,HSTR.out]
       rw[e1];exact hown2
      clear hown2 hgrow
      go_wp2_with fail
      refine(size_any s[k] _).mono ?_;rintro e w' ⟨rfl,hw'⟩;rw[hw',←HZ.out,HZ2.out];clear hw';go_wp2
      go_roundw
      case rel=>
       refine⟨k+2,j+1,g,by go_num,rfl,by rw[T3'.out],by rw[T1.out,HZ2.out],?_,by omega,by omega,HO2.out,B3.out⟩;rw[T2.out,HSAME.out,HG.out]
      case measure=>simp[intOf];omega
   ·have T4:Hid (accL (tw s.data.toList (j+1)).mks=accL (tw s.data.toList j).mks):=by
     show accL (tw s.data.toList (j+1)).mks=accL (tw s.data.toList j).mks;rw[t4]
     split
     ·rw[accL,List.filter_append];simp[accL,isAcc,mkN]
     ·first|rfl|rw[if_neg hgp]
    simp only[not_or]at hgp;have b103:((s[k].toNat:Int)==103)=false:=u8g hgp.1;have b112:((s[k].toNat:Int)==112)=false:=u8g hgp.2;clear t4 hgp hbk
    by_cases h124:s[k]=124
    ·have b124:((s[k].toNat:Int)==124)=true:=by rw[h124];rfl
     have T3':Hid ((tw s.data.toList (j+1)).th=th+1):=by have:=T3.out;rw[if_pos h124]at this;exact this
     clear h124 T3
     go_wp2_with fail
     refine(held_any now s k _ (by omega) (by omega) hlt HSZ2.out).mono ?_;rintro e w' ⟨g,rfl,hg,hw'⟩;have HG:Hid (g.data.toList=heldU now.data.toList s.data.toList k):=hg;rw[hw'];clear hg hw'
     go_wp2_with fail
     refine(size_any s[k] _).mono ?_;rintro e w' ⟨rfl,hw'⟩;rw[hw',←HZ.out];clear hw';go_wp2
     go_roundw
     case rel=>
      refine⟨k+z,j+1,g,by go_num,rfl,by rw[T3'.out],T1.out,by rw[T2.out,HG.out],?_,by omega,by rw[T4.out];exact HROW.out,HB.out⟩;have:=HLEN.out;rw[←HG.out,len_eq]at this;omega
     case measure=>simp[intOf];omega
    ·have b124:((s[k].toNat:Int)==124)=false:=u8g h124;have T3':Hid ((tw s.data.toList (j+1)).th=th):=by have:=T3.out;rw[if_neg h124]at this;exact this
     clear h124 T3
     go_wp2_with fail
     refine(held_any now s k _ (by omega) (by omega) hlt HSZ2.out).mono ?_;rintro e w' ⟨g,rfl,hg,hw'⟩;have HG:Hid (g.data.toList=heldU now.data.toList s.data.toList k):=hg;rw[hw'];clear hg hw'
     go_wp2_with fail
     refine(size_any s[k] _).mono ?_;rintro e w' ⟨rfl,hw'⟩;rw[hw',←HZ.out];clear hw';go_wp2
     go_roundw
     case rel=>
      refine⟨k+z,j+1,g,by go_num,rfl,by rw[T3'.out],T1.out,by rw[T2.out,HG.out],?_,by omega,by rw[T4.out];exact HROW.out,HB.out⟩;have:=HLEN.out;rw[←HG.out,len_eq]at this;omega
     case measure=>simp[intOf];omega
  ·have hend:=(acc_end HA.out (k:=j) (by rw[hki,len_eq];omega)).1;rw[hend]at hrow;have HO':Hid (wr.ownsRow w.heap.size 47 5 u3 (accL mks).length (accsV (accL mks))):=hrow;have HB:Hid (Below w.heap.size w wr):=hbe;clear hrow hend hki hkn hbe;have hform:∃a c,u3=.slice a (accL mks).length c:=by
    rcases HO'.out.2 with⟨hv,h0⟩|⟨g,cap,cur,hv,_⟩
    ·exact⟨none,0,by rw[hv,h0]⟩
    ·exact⟨_,_,hv⟩
   obtain⟨a,c,rfl⟩:=hform;go_wp2;go_ret;exact⟨⟨a,c,rfl,HO'.out⟩,HB.out⟩
set_option maxHeartbeats 800000 in
theorem refAccesses_any(s:ByteArray)(w:World)(hs:s.size≤maxLen) :
  Calls Tryz.prog 25 #[.string s] w fun e w'=>∃v a,e=.returned (.tuple #[v,.int .i64 a])∧ListIs w w' s v a∧Below w.heap.size w w':=by
 go_enter Tryz.func25,Tryz.ntmps25
 go_wp2_with fail
 refine(refCheck_any s w hs).mono ?_;rintro e w1 ⟨a,b,rfl,hc,hw1⟩;rw[hw1];clear hw1
 by_cases ha:a=0
 ·subst ha;have hcc:=hc;rcases hc with⟨_,h1,_⟩|⟨hz,⟨q,_,h1,_⟩|⟨mks,hacc,h1,h2⟩⟩
  ·cases h1
  ·cases h1
  ·have hcnt:=acc_count hacc;rw[len_eq]at hcnt;have HC:Hid (ChkIs s 0 b):=hcc;have HA:Hid (Acc s.data.toList mks):=hacc;clear hcc hacc h1 h2
   go_wp2_with fail
   refine(list_any s mks w hz HA.out).mono ?_;rintro e w2 ⟨⟨x,c,rfl,hown2⟩,hb2⟩;have HH:Hid (ListIs w w2 s (.slice x (accL mks).length c) 0):=⟨b,HC.out,.inr ⟨rfl,hz,mks,x,c,HA.out,by omega,rfl,hown2⟩⟩;have HB:Hid (Below w.heap.size w w2):=hb2;clear hown2 hb2;go_wp2
   go_ret2
   exact⟨_,0,rfl,HH.out,HB.out⟩
 ·have ha':(a != 0)=true:=by simpa using ha
  have HH:Hid (ListIs w w s (.slice none 0 0) a):=⟨b,hc,.inl ⟨ha,rfl⟩⟩;clear hc ha;go_wp2
  go_ret2
  exact⟨_,a,rfl,HH.out,Below.refl _ _⟩
end Go.Proofs.YtdgkpkdinfklaabGreat
