import Derived.Test.YtdgkpkdinfklaabGreatGN
import Derived.Laws.BytesArg
namespace Go.Proofs.YtdgkpkdinfklaabGreat
open Go.RowKit
theorem any_hit{l:List TH}{k:Nat}{t:TH}{x:Int}(h:l[k]?=some t)(hx:(t.name==x)=true):(l.any fun t=>t.name==x)=true:=by
 obtain⟨hk,rfl⟩:=List.getElem?_eq_some_iff.1 h;exact List.any_eq_true.2 ⟨_,List.getElem_mem hk,hx⟩
theorem any_miss{l:List TH}{k:Nat}{t:TH}{x:Int}(h:l[k]?=some t)(h0:((l.take k).any fun t=>t.name==x)=false)(hx:(t.name==x)=false):((l.take (k+1)).any fun t=>t.name==x)=false:=by
 obtain⟨hk,rfl⟩:=List.getElem?_eq_some_iff.1 h;rw[List.take_succ_eq_append_getElem hk,List.any_append,h0];simp[hx]
set_option maxHeartbeats 1600000 in
set_option maxRecDepth 100000 in
theorem mhas_any(B:Nat)(v:Value)(ths:List TH)(x:Int)(w:World)(h:w.ownsRow B 153 7 v ths.length (thsV ths))(hl:ths.length≤4) :
  Calls Tryz.prog 117 #[v,.int .i64 x] w fun e w'=>e=.returned (.bool (ths.any fun t=>t.name==x))∧w'=w:=by
 obtain⟨at',ct,rfl⟩:=row_form h;have HR:Hid (w.ownsRow B 153 7 (.slice at' ths.length ct) ths.length (thsV ths)):=h;obtain⟨n,hn⟩:∃n,n=ths.length:=⟨_,rfl⟩;have HN:Hid (n=ths.length):=hn;rw[←hn]at hl ⊢;clear h hn
 go_enter Tryz.func117,Tryz.ntmps117
 go_wp2
 go_loopw [5] (fun i wr=>∃k:Nat,k≤n∧i=.int .i64 k∧wr=w∧((ths.take k).any fun t=>t.name==x)=false) (fun i _=>n-(intOf i).toNat)
 case atStart=>exact⟨0,Nat.zero_le _,rfl,rfl,rfl⟩
 case round=>
  obtain⟨k,hk,rfl,rfl,hf⟩:=hrel;have HF:Hid (((ths.take k).any fun t=>t.name==x)=false):=hf;clear hf
  by_cases hlt:k<n
  ·obtain⟨t,ht⟩:∃t,ths[k]?=some t:=⟨_,List.getElem?_eq_getElem (by rw[←HN.out];exact hlt)⟩;obtain⟨g,rfl⟩:∃g,at'=some ⟨g,0,none⟩:=by
    obtain⟨g,cap',hv,_⟩:=HR.out.form (by rw[←HN.out];omega);simp only[Value.slice.injEq]at hv;exact⟨g,hv.1⟩
   have q:=thAt HR.out k t ht 0 (by decide) _ rfl;rw[Nat.add_zero]at q;cases hb:(t.name==x)with
   | true=>
    have E:Hid ((ths.any fun t=>t.name==x)=true):=any_hit ht hb;clear ht;go_wp2;go_ret;exact⟨by rw[E.out];rfl,rfl⟩
   | false=>
    have E:Hid (((ths.take (k+1)).any fun t=>t.name==x)=false):=any_miss ht HF.out hb;clear ht;go_wp2
    go_roundw
    case rel=>exact⟨k+1,by omega,by go_num,by first|rfl|trivial,E.out⟩
    case measure=>simp[intOf];omega
  ·have E:Hid ((ths.any fun t=>t.name==x)=false):=by
    have:=HF.out;rw[List.take_of_length_le (by rw[←HN.out];omega)]at this;exact this
   go_wp2;go_ret;exact⟨by rw[E.out];rfl,rfl⟩
def waitM(F:List ST)(lk:List LK)(s:List TH):List TH:=s.filter fun t=>s.any fun u=>u.name==awaitedM lk (upc F t.next)
theorem thsV_append(a b:List TH):thsV (a++b)=thsV a++thsV b:=by simp[thsV]
set_option maxHeartbeats 6400000 in
set_option maxRecDepth 100000 in
theorem mwaiting_any(b Bt Bp B:Nat)(vs vt vp v:Value)(F:List ST)(ths set:List TH)(c:CS)(w:World)(h:MC w b Bt Bp vs vt vp F ths c)(hr:w.ownsRow B 153 7 v set.length (thsV set))(hl:set.length≤4)(hF:F.length≤1000) :
  Calls Tryz.prog 95 #[.pointer (some ⟨b,0,none⟩),v] w fun e w'=>∃v',e=.returned v'∧w'.ownsRow w.heap.size 153 7 v' (waitM F c.lk set).length (thsV (waitM F c.lk set))∧Chg [] w w':=by
 obtain⟨i0,hi0,hz0,hz1,hz2⟩:=info_parts Tryz.infoThread;obtain⟨at',ct,rfl⟩:=row_form hr;have HM:Hid (MC w b Bt Bp vs vt vp F ths c):=h;have HR:Hid (w.ownsRow B 153 7 (.slice at' set.length ct) set.length (thsV set)):=hr;have hgl:=h.gl3;have hlk:=h.lk5;obtain⟨P,hP⟩:∃P:TH→Bool,P=fun t=>set.any fun u=>u.name==awaitedM c.lk (upc F t.next):=⟨_,rfl⟩
 have HW:Hid (waitM F c.lk set=set.filter P):=by rw[hP];rfl
 have UP:Hid (∀(t:TH) (w':World),MC w' b Bt Bp vs vt vp F ths c→Calls Tryz.prog 91 #[.pointer (some ⟨b,0,none⟩),thAgg t] w' fun e w''=>e=.returned (stAgg (upc F t.next))∧Chg [] w' w''):=fun t w' h1=>upcoming_any b vs vt vp c.gl c.lk c.raced t F w' h1.blk h1.srow hF
 have AW:Hid (∀(s:ST) (w':World),MC w' b Bt Bp vs vt vp F ths c→Calls Tryz.prog 92 #[.pointer (some ⟨b,0,none⟩),stAgg s] w' fun e w''=>e=.returned (.int .i64 (awaitedM c.lk s))∧Chg [] w' w''):=fun s w' h1=>awaited_any b vs vt vp c.gl c.lk c.raced s w' h1.blk hgl hlk
 have HS:Hid (∀(t:TH) (w':World),w'.ownsRow B 153 7 (.slice at' set.length ct) set.length (thsV set)→Calls Tryz.prog 117 #[.slice at' set.length ct,.int .i64 (awaitedM c.lk (upc F t.next))] w' fun e w''=>e=.returned (.bool (P t))∧w''=w'):=fun t w' h1=>by rw[hP];exact mhas_any B _ set _ w' h1 hl
 unfold thAgg stAgg at UP;unfold stAgg at AW;obtain⟨n,hn⟩:∃n,n=set.length:=⟨_,rfl⟩;have HN:Hid (n=set.length):=hn;rw[←hn]at hl HS ⊢;clear h hr hn hP hgl hlk
 go_enter Tryz.func95,Tryz.ntmps95
 go_wp2
 go_loopw [5,6] (fun v i wr=>∃k:Nat,k≤n∧i=.int .i64 k∧wr.ownsRow w.heap.size 153 7 v ((set.take k).filter P).length (thsV ((set.take k).filter P))∧Chg [] w wr) (fun _ i _=>n-(intOf i).toNat)
 case atStart=>exact⟨0,Nat.zero_le _,rfl,World.ownsRow_nil _ _ _ _,Chg.refl _ _⟩
 case round=>
  obtain⟨k,hk,rfl,hown,hc⟩:=hrel;have hsz:=hc.size;have HO:Hid (wr.ownsRow w.heap.size 153 7 u5 ((set.take k).filter P).length (thsV ((set.take k).filter P))):=hown;have HC:Hid (Chg [] w wr):=hc;have hll:((set.take k).filter P).length≤4:=by
   have h1:=List.length_filter_le P (set.take k);have h2:(set.take k).length≤k:=List.length_take_le _ _;omega
  by_cases hlt:k<n
  ·obtain⟨t,ht⟩:∃t,set[k]?=some t:=⟨_,List.getElem?_eq_getElem (by rw[←HN.out];exact hlt)⟩;obtain⟨g,rfl⟩:∃g,at'=some ⟨g,0,none⟩:=by
    obtain⟨g,cap',hv,_⟩:=HR.out.form (by rw[←HN.out];omega);simp only[Value.slice.injEq]at hv;exact⟨g,hv.1⟩
   have hr':=row_chg HR.out hc (by simp);have hgl:g<w.heap.size:=(HR.out.lt g rfl).2;have q0:=thAt hr' k t ht 0 (by decide) _ rfl;have q1:=thAt hr' k t ht 1 (by decide) _ rfl;have q2:=thAt hr' k t ht 2 (by decide) _ rfl;have q3:=thAt hr' k t ht 3 (by decide) _ rfl;have q4:=thAt hr' k t ht 4 (by decide) _ rfl;have q5:=thAt hr' k t ht 5 (by decide) _ rfl;have q6:=thAt hr' k t ht 6 (by decide) _ rfl;rw[Nat.add_zero]at q0;have ET:Hid (set.take (k+1)=set.take k++[t]):=by
    obtain⟨h1,h2⟩:=List.getElem?_eq_some_iff.1 ht;show _=_;rw[List.take_succ_eq_append_getElem h1,h2]
   have MR:=HM.out.later hc;have HT:Hid (set[k]?=some t):=ht;clear hown hc hr' ht
   go_wp2_with fail
   refine(UP.out t _ MR).mono ?_;rintro e w1 ⟨rfl,d1⟩;obtain⟨s,hs⟩:∃s,s=upc F t.next:=⟨_,rfl⟩;rw[←hs];have HSs:Hid (s=upc F t.next):=hs;have hs1:wr.heap.size≤w1.heap.size:=d1.size;have M1:Hid (∀o,MC (w1.alloc o) b Bt Bp vs vt vp F ths c):=fun o=>(MR.later d1).later ((Chg.refl _ w1).alloc o)
   have D1:Hid (∀o,Chg [] wr (w1.alloc o)):=fun o=>d1.alloc o
   clear d1 hs MR q0 q1 q2 q3 q4 q5 q6
   go_wp2_with fail
   refine(AW.out s _ (M1.out _)).mono ?_;rintro e w2 ⟨rfl,d2⟩;have D2:Hid (Chg [] wr w2):=(D1.out _).trans d2;have HCW:Hid (Chg [] w w2):=HC.out.trans D2.out;have hs2:wr.heap.size≤w2.heap.size:=D2.out.size;clear d2 D1 M1;have HAS:Hid (∀w':World,w'.ownsRow B 153 7 (.slice (some ⟨g,0,none⟩) set.length ct) set.length (thsV set)→Calls Tryz.prog 117 #[.slice (some ⟨g,0,none⟩) n ct,.int .i64 (awaitedM c.lk s)] w' fun e w''=>e=.returned (.bool (P t))∧w''=w'):=fun w' h1=>by
    have:=HS.out t w' (by first|exact h1|(rw[HN.out];exact h1));rw[←HSs.out]at this;exact this
   go_wp2_with fail
   refine(HAS.out w2 (row_chg HR.out HCW.out (by simp))).mono ?_;rintro e w3 ⟨rfl,rfl⟩;clear HAS;have HO2:Hid (w3.ownsRow w.heap.size 153 7 u5 ((set.take k).filter P).length (thsV ((set.take k).filter P))):=row_chg HO.out D2.out (by simp);obtain⟨LL,hLL⟩:∃LL,LL=(set.take k).filter P:=⟨_,rfl⟩;have HLL:Hid (LL=(set.take k).filter P):=hLL;rw[←hLL]at HO2 hll;have hr3:=row_chg HR.out HCW.out (by simp);have q0:=thAt hr3 k t HT.out 0 (by decide) _ rfl;have q1:=thAt hr3 k t HT.out 1 (by decide) _ rfl;have q2:=thAt hr3 k t HT.out 2 (by decide) _ rfl;have q3:=thAt hr3 k t HT.out 3 (by decide) _ rfl;have q4:=thAt hr3 k t HT.out 4 (by decide) _ rfl;have q5:=thAt hr3 k t HT.out 5 (by decide) _ rfl;have q6:=thAt hr3 k t HT.out 6 (by decide) _ rfl;rw[Nat.add_zero]at q0;clear hLL hr3;cases hb:P t with
   | true=>
    have EF:Hid ((set.take (k+1)).filter P=LL++[t]):=by
     show _=_;rw[ET.out,List.filter_append,HLL.out];simp[hb]
    clear hb
    go_wp2_with (at_builtin;refine wpList_append_own _ rfl (.tmp 29) (.tmp 34) 118 rfl w.heap.size 153 i0 _ 7 56 Tryz.underlying118 hi0 hz0 hz1 hz2 rfl (by decide) u5 LL.length (thsV LL) rfl (HO2.out.alloc _) ⟨w3.heap.size,0,none⟩ 1 1 (thV t) rfl rfl ?hnews ?h1 ?h63 ?hby ?hbase ?next)
    case hnews=>exact World.news_of_block (cs:=(thV t).toArray) (t:=153) (fr:=(0,0)) (heap_alloc_new _ _)
    case h1=>intro u hu;simp[thV]at hu;rcases hu with rfl|rfl|rfl|rfl|rfl|rfl|rfl<;>rfl
    case h63=>unfold maxLen;omega
    case hby=>omega
    case hbase=>simp;omega
    case next=>
     intro v' w4 hown4 hgrow _;have C4:Hid (Chg [] w w4):=chg_grown (HCW.out.alloc _) hgrow (fun g hg=>.inr (HO2.out.lt g hg).1);have O4:Hid (w4.ownsRow w.heap.size 153 7 v' ((set.take (k+1)).filter P).length (thsV ((set.take (k+1)).filter P))):=by
      show World.ownsRow _ _ _ _ _ _ _;rw[EF.out,thsV_append,List.length_append];have:thsV [t]=thV t:=by simp[thsV]
      rw[this];exact hown4
     clear hown4 hgrow;go_wp2
     go_roundw
     case rel=>exact⟨k+1,by omega,by go_num,O4.out,C4.out⟩
     case measure=>simp[intOf];omega
   | false=>
    have EF:Hid ((set.take (k+1)).filter P=LL):=by
     show _=_;rw[ET.out,List.filter_append,HLL.out];simp[hb]
    clear hb;go_wp2
    go_roundw
    case rel=>exact⟨k+1,by omega,by go_num,by rw[EF.out];exact HO2.out,HCW.out⟩
    case measure=>simp[intOf];omega
  ·have HO':Hid (wr.ownsRow w.heap.size 153 7 u5 (waitM F c.lk set).length (thsV (waitM F c.lk set))):=by
    have:=HO.out;rw[List.take_of_length_le (by rw[←HN.out];omega),←HW.out]at this;exact this
   clear hown;go_wp2;go_ret;exact⟨u5,rfl,HO'.out,hc⟩
def iterM(F:List ST)(lk:List LK)(s:List TH):Nat→List TH
 | 0=>s
 | k+1=>waitM F lk (iterM F lk s k)
theorem waitM_len(F:List ST)(lk:List LK)(s:List TH):(waitM F lk s).length≤s.length:=List.length_filter_le _ _
theorem iterM_len(F:List ST)(lk:List LK)(s:List TH)(k:Nat):(iterM F lk s k).length≤s.length:=by
 induction k with
 | zero=>exact Nat.le_refl _
 | succ k ih=>exact Nat.le_trans (waitM_len _ _ _) ih
theorem iterM_mem(F:List ST)(lk:List LK)(s:List TH)(k:Nat):∀t∈iterM F lk s k,t∈s:=by
 induction k with
 | zero=>exact fun t h=>h
 | succ k ih=>exact fun t h=>ih t (List.mem_filter.1 h).1
def nameB(t:TH):UInt8:=UInt8.ofNat (48+t.name.toNat)
def stuckM(F:List ST)(lk:List LK)(ths:List TH):List UInt8:=(iterM F lk ths ths.length).map nameB
theorem nameB_val{t:TH}(h1:1≤t.name)(h4:t.name≤4):((nameB t).toNat:Int)=48+t.name:=by
 unfold nameB;obtain⟨n,hn⟩:=Int.eq_ofNat_of_zero_le (show 0≤t.name by omega);rw[hn,Int.toNat_natCast,UInt8.toNat_ofNat_of_lt' (by show 48+n<256;omega)];omega
theorem addrM(g j:Nat):(⟨g,0,none⟩:Addr).add j=⟨g,j,none⟩:=by unfold Addr.add;split<;>simp_all
set_option maxHeartbeats 6400000 in
set_option maxRecDepth 100000 in
theorem mstuck_any(b Bt Bp:Nat)(vs vt vp:Value)(F:List ST)(ths:List TH)(c:CS)(w:World)(h:MC w b Bt Bp vs vt vp F ths c)(hl:ths.length≤4)(hF:F.length≤1000)(hok:∀t∈ths,1≤t.name∧t.name≤4) :
  Calls Tryz.prog 71 #[.pointer (some ⟨b,0,none⟩)] w fun e w'=>e=.returned (.string ⟨(stuckM F c.lk ths).toArray⟩)∧Chg [] w w':=by
 obtain⟨i0,hi0,hz0,hz1,hz2⟩:=info_parts Tryz.infoByteM;obtain⟨at',ct,rfl⟩:=row_form h.trow;have HM:Hid (MC w b Bt Bp vs (.slice at' ths.length ct) vp F ths c):=h;have OK:Hid (∀t∈ths,1≤t.name∧t.name≤4):=hok;have WT:Hid (∀(B:Nat) (v:Value) (set:List TH) (w':World),MC w' b Bt Bp vs (.slice at' ths.length ct) vp F ths c→w'.ownsRow B 153 7 v set.length (thsV set)→set.length≤4→Calls Tryz.prog 95 #[.pointer (some ⟨b,0,none⟩),v] w' fun e w''=>∃v',e=.returned v'∧w''.ownsRow w'.heap.size 153 7 v' (waitM F c.lk set).length (thsV (waitM F c.lk set))∧Chg [] w' w''):=fun B v set w' h1 h2 h3=>mwaiting_any b Bt Bp B vs _ vp v F ths set c w' h1 h2 h3 hF
 obtain⟨n,hn⟩:∃n,n=ths.length:=⟨_,rfl⟩;have HN:Hid (n=ths.length):=hn;have c1:=h.blk.cell 1 _ rfl;have hbl:=h.blk.lt;rw[←hn]at hl HM WT c1;clear h hn hok
 go_enter Tryz.func71,Tryz.ntmps71
 go_wp2
 go_loopw [3,4] (fun v i wr=>∃(k B:Nat),k≤n∧i=.int .i64 k∧wr.ownsRow B 153 7 v (iterM F c.lk ths k).length (thsV (iterM F c.lk ths k))∧Chg [] w wr) (fun _ i _=>n-(intOf i).toNat)
 case atStart=>exact⟨0,Bt,Nat.zero_le _,rfl,by have:=HM.out.trow;exact this,Chg.refl _ _⟩
 case round=>
  obtain⟨k,B,hk,rfl,hown,hc⟩:=hrel;have MR:=HM.out.later hc;have d1:=MR.blk.cell 1 _ rfl;have hlen:=iterM_len F c.lk ths k
  by_cases hlt:k<n
  ·have HC:Hid (Chg [] w wr):=hc;have HO:Hid (wr.ownsRow B 153 7 u3 (iterM F c.lk ths k).length (thsV (iterM F c.lk ths k))):=hown;have MR':Hid (MC wr b Bt Bp vs (.slice at' n ct) vp F ths c):=MR;clear hown hc MR
   go_wp2_with fail
   refine(WT.out B u3 (iterM F c.lk ths k) wr MR'.out HO.out (by rw[HN.out]at hl;omega)).mono ?_;rintro e w1 ⟨v',rfl,ho1,hc1⟩;have O1:Hid (w1.ownsRow wr.heap.size 153 7 v' (iterM F c.lk ths (k+1)).length (thsV (iterM F c.lk ths (k+1)))):=ho1;have C1:Hid (Chg [] w w1):=HC.out.trans hc1;clear ho1 hc1;go_wp2
   go_roundw
   case rel=>exact⟨k+1,_,by omega,by go_num,O1.out,C1.out⟩
   case measure=>simp[intOf];omega
  ·rename World=>w5
   have hkn:k=n:=by omega
   subst hkn;obtain⟨a3,c3,rfl⟩:=row_form hown;obtain⟨S,hS⟩:∃S,S=iterM F c.lk ths k:=⟨_,rfl⟩;have ES:Hid (stuckM F c.lk ths=S.map nameB):=by
    show _=_;rw[hS,HN.out];rfl
   have OS:Hid (∀t∈S,1≤t.name∧t.name≤4):=fun t ht=>OK.out t (iterM_mem F c.lk ths k t (by rw[←hS];exact ht))
   rw[←hS]at hown hlen;have HO:Hid (w5.ownsRow B 153 7 (.slice a3 S.length c3) S.length (thsV S)):=hown;have HC:Hid (Chg [] w w5):=hc;have hS4:S.length≤4:=by rw[HN.out]at hl;omega
   obtain⟨m,hm⟩:∃m,m=S.length:=⟨_,rfl⟩;have Hm:Hid (m=S.length):=hm;rw[←hm]at hS4 HO;rw[←hS,←hm];clear hown hc MR hS hm hlen;go_wp2
   go_loopw [5,6] (fun v i ws=>∃j:Nat,j≤m∧i=.int .i64 j∧ws.ownsRow w5.heap.size 5 1 v j (bysV ((S.take j).map nameB))∧Chg [] w5 ws) (fun _ i _=>m-(intOf i).toNat)
   case atStart=>exact⟨0,Nat.zero_le _,rfl,World.ownsRow_nil _ _ _ _,Chg.refl _ _⟩
   case round=>
    obtain⟨j,hj,rfl,hown,hc⟩:=hrel;have hsz:=hc.size
    by_cases hlt2:j<m
    ·obtain⟨t,ht⟩:∃t,S[j]?=some t:=⟨_,List.getElem?_eq_getElem (by rw[←Hm.out];exact hlt2)⟩;obtain⟨g,rfl⟩:∃g,a3=some ⟨g,0,none⟩:=by
      obtain⟨g,cap',hv,_⟩:=HO.out.form (by omega);simp only[Value.slice.injEq]at hv;exact⟨g,hv.1⟩
     have rr:=row_chg HO.out hc (by simp);rw[Hm.out]at rr;have q:=thAt rr j t ht 0 (by decide) _ rfl;rw[Nat.add_zero]at q;obtain⟨t1,t4⟩:=OS.out t (List.mem_of_getElem? ht);have ET:Hid (bysV ((S.take (j+1)).map nameB)=bysV ((S.take j).map nameB)++[.int .u8 (48+t.name)]):=by
      obtain⟨h1,h2⟩:=List.getElem?_eq_some_iff.1 ht;show _=_;rw[List.take_succ_eq_append_getElem h1,h2];simp only[bysV,List.map_append,List.map_cons,List.map_nil];rw[nameB_val t1 t4]
     obtain⟨LL,hLL⟩:∃LL,LL=bysV ((S.take j).map nameB):=⟨_,rfl⟩;have HO5:Hid (wr.ownsRow w5.heap.size 5 1 u5 j LL):=by rw[hLL];exact hown
     have HC5:Hid (Chg [] w5 wr):=hc;rw[←hLL]at ET;clear hown hc rr ht hLL
     go_wp2_with (at_builtin;refine wpList_append_own _ rfl (.tmp 29) (.tmp 37) 91 rfl w5.heap.size 5 i0 _ 1 1 Tryz.underlying91 hi0 hz0 hz1 hz2 rfl (by decide) u5 j LL rfl (HO5.out.alloc _) ⟨wr.heap.size,0,none⟩ 1 1 [.int .u8 (48+t.name)] rfl rfl ?hnews ?h1 ?h63 ?hby ?hbase ?next)
     case hnews=>exact World.news_of_block (cs:=#[.int .u8 (48+t.name)]) (t:=5) (fr:=(0,0)) (heap_alloc_new _ _)
     case h1=>intro u hu;simp at hu;subst hu;rfl
     case h63=>unfold maxLen;omega
     case hby=>omega
     case hbase=>simp;omega
     case next=>
      intro v' w4 hown4 hgrow _;have C4:Hid (Chg [] w5 w4):=chg_grown (HC5.out.alloc _) hgrow (fun g hg=>.inr (HO5.out.lt g hg).1);have O4:Hid (w4.ownsRow w5.heap.size 5 1 v' (j+1) (bysV ((S.take (j+1)).map nameB))):=by
       show World.ownsRow _ _ _ _ _ _ _;rw[ET.out];exact hown4
      clear hown4 hgrow;go_wp2
      go_roundw
      case rel=>exact⟨j+1,by omega,by go_num,O4.out,C4.out⟩
      case measure=>simp[intOf];omega
    ·have hjm:j=m:=by omega
     subst hjm;obtain⟨l,hl'⟩:∃l,l=S.map nameB:=⟨_,rfl⟩;have hll:l.length=j:=by rw[hl',List.length_map,←Hm.out]
     have HL:Hid (stuckM F c.lk ths=l):=by rw[hl'];exact ES.out
     have HO5:Hid (wr.ownsRow w5.heap.size 5 1 u5 j (bysV l)):=by
      have h1:=hown;rw[List.take_of_length_le (by rw[←Hm.out];omega),←hl']at h1;exact h1
     have CC:Hid (Chg [] w wr):=HC.out.trans hc;clear hown hc hl' ES;rcases HO5.out.2 with⟨hv,hn0⟩|⟨gb,cap,cur,hv,_⟩
     ·have ho:l=[]:=List.eq_nil_of_length_eq_zero (by omega);subst hv;subst ho;have hcv:=fun(wx:World)=>run_convert_bytes_nil (P:=Tryz.prog) wx 91 5 Tryz.underlying91 Tryz.underlying5 0 0 9 Tryz.underlying9
      go_wp2;go_ret;exact⟨by rw[HL.out];rfl,CC.out⟩
     ·subst hv;rw[←hll]at HO5 ⊢
      have hcv:=run_convert_bytes_back (P:=Tryz.prog) wr 91 9 5 ⟨gb,0,none⟩ cap l Tryz.underlying91 Tryz.underlying5 Tryz.underlying9 (fun j hj=>by
       rw[addrM];have:=HO5.out.cellAt j (by omega);rw[this]
       simp[bysV,List.getElem?_eq_getElem hj])
      clear hll;go_wp2;go_ret;exact⟨by rw[HL.out];rfl,CC.out⟩
end Go.Proofs.YtdgkpkdinfklaabGreat
