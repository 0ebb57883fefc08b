import Derived.Test.YtdgkpkdinfklaabGreatGU
import Derived.Test.YtdgkpkdinfklaabGreatGLY
import Derived.Test.YtdgkpkdinfklaabGreatGSP
namespace Go.Proofs.YtdgkpkdinfklaabGreat
open Go.RowKit
def costL(p:List UInt8):Nat:=(p.filter (·==60)).length
theorem cost_step{p:ByteArray}{k:Nat}(h:k<p.size):costL (p.data.toList.take (k+1))=costL (p.data.toList.take k)+(if p[k]=60 then 1 else 0):=by
 have hk:k<p.data.toList.length:=by simpa using h
 have e:p.data.toList[k]=p[k]:=rfl;unfold costL;rw[List.take_succ_eq_append_getElem hk,List.filter_append,List.length_append,e]
 by_cases hc:p[k]=60
 ·simp[hc]
 ·simp[hc]
theorem costL_le(l:List UInt8):costL l≤l.length:=List.length_filter_le _ _
set_option maxHeartbeats 800000 in
theorem refcost_any(p:ByteArray)(w:World)(hp:p.size≤maxLen) :
  Calls Tryz.prog 57 #[.string p] w fun e w'=>e=.returned (.int .i64 (costL p.data.toList))∧w'=w:=by
 unfold maxLen at hp
 go_enter Tryz.func57,Tryz.ntmps57
 go_wp2
 go_loop [3,4] (fun v i=>∃k:Nat,k≤p.size∧i=.int .i64 k∧v=.int .i64 (costL (p.data.toList.take k))) (fun _ i=>p.size-(intOf i).toNat)
 case atStart=>exact⟨0,Nat.zero_le _,rfl,rfl⟩
 case round=>
  obtain⟨k,hk,rfl,rfl⟩:=hrel;have hb:costL (p.data.toList.take k)≤k:=Nat.le_trans (costL_le _) (List.length_take_le _ _);obtain⟨m,hm⟩:∃m,m=costL (p.data.toList.take k):=⟨_,rfl⟩
  by_cases hlt:k<p.size
  ·have hs:=cost_step hlt;rw[←hm]at hs hb ⊢
   by_cases hc:p[k]=60
   ·have bc:(p[k].toNat:Int)=60:=by rw[hc];rfl
    rw[if_pos hc]at hs;have HS:Hid (costL (p.data.toList.take (k+1))=m+1):=hs;clear hs hm hc;go_wp2
    go_round
    case rel=>exact⟨k+1,by omega,by go_num,by rw[HS.out];go_num⟩
    case measure=>simp[intOf];omega
   ·have bc:((p[k].toNat:Int)==60)=false:=u8g hc;rw[if_neg hc]at hs;have HS:Hid (costL (p.data.toList.take (k+1))=m):=hs;clear hs hm hc;go_wp2
    go_round
    case rel=>exact⟨k+1,by omega,by go_num,by rw[HS.out]⟩
    case measure=>simp[intOf];omega
  ·have:p.data.toList.take k=p.data.toList:=List.take_of_length_le (by simp;omega);rw[←hm];rw[this]at hm;have HM:Hid (m=costL p.data.toList):=hm;clear hm this;go_wp2;go_ret;rw[←HM.out];exact⟨rfl,rfl⟩
def choN(c:Int):Nat:=((if c<0 then -(c+1)else c)%6).toNat
theorem choN_lt(c:Int):choN c<6:=by
 unfold choN;split<;>omega
set_option maxHeartbeats 400000 in
theorem choice_any(c:Int)(w:World)(h0:-9223372036854775808≤c)(h1:c≤9223372036854775807) :
  Calls Tryz.prog 80 #[.int .i64 c] w fun e w'=>e=.returned (.int .i64 (choN c))∧w'=w:=by
 by_cases hc:c<0
 ·have HP:Hid ((choN c:Int)=(-(c+1))%6):=by
   show(choN c:Int)=_;rw[choN,if_pos hc];omega
  go_enter Tryz.func80,Tryz.ntmps80
  go_wp2;go_ret;refine⟨?_,rfl⟩;rw[HP.out];have e1:-((c+1).tmod 6)=(-(c+1))%6:=by rw[←Int.neg_tmod,Int.tmod_eq_emod_of_nonneg (by omega)]
  rw[←e1];rfl
 ·have HP:Hid ((choN c:Int)=c%6):=by
   show(choN c:Int)=_;rw[choN,if_neg hc];omega
  go_enter Tryz.func80,Tryz.ntmps80
  go_wp2;go_ret;refine⟨?_,rfl⟩;rw[HP.out];rfl
def prs:List UInt8→List (UInt8×UInt8)
 | a::b::l=>(a,b)::prs l
 | _=>[]
theorem prs_next{l:List UInt8}{i:Nat}(h:i+1<l.length):prs (l.drop i)=(l[i],l[i+1])::prs (l.drop (i+2)):=by
 rw[List.drop_eq_getElem_cons (by omega:i<l.length),List.drop_eq_getElem_cons h,prs]
theorem prs_end{l:List UInt8}{i:Nat}(h:¬i+1<l.length):prs (l.drop i)=[]:=by
 have:(l.drop i).length≤1:=by rw[List.length_drop];omega
 match l.drop i,this with
 | [],_=>rfl
 | [_],_=>rfl
 | _::_::_,h=>simp at h
theorem prs_len(l:List UInt8):2*(prs l).length≤l.length:=by
 match l with
 | []=>simp[prs]
 | [_]=>simp[prs]
 | a::b::l=>have:=prs_len l;simp only[prs,List.length_cons];omega
def nfE(E:List (UInt8×UInt8))(to:List UInt8):Nat:=(E.filter (fun e=>!inU to e.2)).length
theorem nfE_cons(e:UInt8×UInt8)(E:List (UInt8×UInt8))(to:List UInt8):nfE (e::E) to=nfE E to+(if inU to e.2=true then 0 else 1):=by
 unfold nfE;cases h:inU to e.2<;>simp[h]
theorem nfE_le(E:List (UInt8×UInt8))(to:List UInt8)(x:UInt8):nfE E (to++[x])≤nfE E to:=by
 induction E with
 | nil=>exact Nat.le_refl _
 | cons e E ih=>
  rw[nfE_cons,nfE_cons]
  by_cases h:inU to e.2=true
  ·have:inU (to++[x]) e.2=true:=by rw[inU_mem]at h ⊢;simp[h]
   rw[if_pos h,if_pos this];omega
  ·rw[if_neg h];split<;>omega
theorem nfE_lt{E:List (UInt8×UInt8)}{to:List UInt8}{e:UInt8×UInt8}(he:e∈E)(h:inU to e.2=false):nfE E (to++[e.2])+1≤nfE E to:=by
 induction E with
 | nil=>cases he
 | cons f E ih=>
  rw[nfE_cons,nfE_cons];rcases List.mem_cons.1 he with rfl|he
  ·have:=nfE_le E to e.2;have h1:inU (to++[e.2]) e.2=true:=by rw[inU_mem];simp
   rw[if_pos h1,if_neg (by rw[h];simp)];omega
  ·have:=ih he
   by_cases h2:inU to f.2=true
   ·have:inU (to++[e.2]) f.2=true:=by rw[inU_mem]at h2 ⊢;simp[h2]
    rw[if_pos h2,if_pos this];omega
   ·rw[if_neg h2];split<;>omega
theorem nfE_start(E:List (UInt8×UInt8)):nfE E []≤E.length:=List.length_filter_le _ _
theorem pas_hit{a:UInt8}{e:UInt8×UInt8}{E:List (UInt8×UInt8)}{to:List UInt8}(h1:e.1=a∨inU to e.1=true)(h2:inU to e.2=false):pas a (e::E) to=pas a E (to++[e.2]):=by
 rw[pas,if_pos];refine⟨h1.imp id inU_mem.1,fun h=>?_⟩;rw[←inU_mem,h2]at h;exact Bool.noConfusion h
theorem pas_miss{a:UInt8}{e:UInt8×UInt8}{E:List (UInt8×UInt8)}{to:List UInt8}(h:¬(e.1=a∨inU to e.1=true)∨inU to e.2=true):pas a (e::E) to=pas a E to:=by
 rw[pas,if_neg];rintro⟨h1,h2⟩;rcases h with h|h
 ·exact h (h1.imp id inU_mem.2)
 ·exact h2 (inU_mem.1 h)
def WI(E:List (UInt8×UInt8))(a:UInt8)(to:List UInt8)(ag:Bool):Prop:=
 (∀x∈to,WayE E a x)∧to.length+nfE E to≤E.length∧(ag=false→pas a E to=to)
def WJ(L:List UInt8)(a:UInt8)(t0 to:List UInt8)(ag:Bool)(i:Nat):Prop:=
 pas a (prs (L.drop i)) to=pas a (prs L) t0∧(∀e∈prs (L.drop i),e∈prs L)∧to.length+nfE (prs L) to≤(prs L).length ∧
  ((ag=false∧to=t0)∨(ag=true∧nfE (prs L) to<nfE (prs L) t0))
theorem WI.start{E:List (UInt8×UInt8)}{a:UInt8}:WI E a [] true:=⟨fun x hx=>absurd hx List.not_mem_nil,by have:=nfE_start E;simpa using this,fun h=>Bool.noConfusion h⟩
theorem WI.pass{L:List UInt8}{a:UInt8}{to:List UInt8}{ag:Bool}(h:WI (prs L) a to ag):WJ L a to to false 0:=
 ⟨by rw[List.drop_zero],by rw[List.drop_zero];exact fun e he=>he,h.2.1,.inl ⟨rfl,rfl⟩⟩
theorem WJ.hit{L:List UInt8}{a:UInt8}{t0 to:List UInt8}{ag:Bool}{i:Nat}(h:WJ L a t0 to ag i){x y:UInt8}(hi:i+1<L.length)(hx:L[i]=x)(hy:L[i+1]=y)
  (h1:x=a∨inU to x=true)(h2:inU to y=false):WJ L a t0 (to++[y]) true (i+2):=by
 obtain⟨p1,p2,p3,p4⟩:=h;rw[prs_next hi,hx,hy]at p1 p2;have hl:=nfE_lt (E:=prs L) (to:=to) (e:=(x,y)) (p2 _ List.mem_cons_self) h2;rw[pas_hit (e:=(x,y)) h1 h2]at p1;refine⟨p1,fun e he=>p2 e (List.mem_cons_of_mem _ he),?_,.inr ⟨rfl,?_⟩⟩
 ·rw[List.length_append,List.length_singleton];simp only at hl;omega
 ·simp only at hl;rcases p4 with⟨_,rfl⟩|⟨_,h⟩<;>omega
theorem WJ.miss{L:List UInt8}{a:UInt8}{t0 to:List UInt8}{ag:Bool}{i:Nat}(h:WJ L a t0 to ag i){x y:UInt8}(hi:i+1<L.length)(hx:L[i]=x)(hy:L[i+1]=y)
  (h1:¬(x=a∨inU to x=true)∨inU to y=true):WJ L a t0 to ag (i+2):=by
 obtain⟨p1,p2,p3,p4⟩:=h;rw[prs_next hi,hx,hy]at p1 p2;rw[pas_miss (e:=(x,y)) h1]at p1;exact⟨p1,fun e he=>p2 e (List.mem_cons_of_mem _ he),p3,p4⟩
theorem WJ.done{L:List UInt8}{a:UInt8}{t0 to:List UInt8}{ag ag0:Bool}{i:Nat}(h:WJ L a t0 to ag i)(hw:WI (prs L) a t0 ag0)(hi:¬i+1<L.length) :
  WI (prs L) a to ag∧(ag=true→nfE (prs L) to<nfE (prs L) t0)∧nfE (prs L) to≤nfE (prs L) t0:=by
 obtain⟨p1,p2,p3,p4⟩:=h;rw[prs_end hi,pas]at p1;refine⟨⟨?_,p3,?_⟩,?_,?_⟩
 ·rw[p1];exact pas_sound _ _ _ (fun e he=>he) _ hw.1
 ·intro hag;rcases p4 with⟨_,h⟩|⟨h,_⟩
  ·rw[h];rw[h]at p1;exact p1.symm
  ·rw[hag]at h;exact Bool.noConfusion h
 ·intro hag;rcases p4 with⟨h,_⟩|⟨_,h⟩
  ·rw[hag]at h;exact Bool.noConfusion h
  ·exact h
 ·rcases p4 with⟨_,h⟩|⟨_,h⟩
  ·rw[h];exact Nat.le_refl _
  ·omega
theorem cut_one(s:ByteArray)(j:Nat)(h:j<s.size):(s.extract j (j+1)).data.toList=[s[j]]:=by
 have hk:j<s.data.toList.length:=by rw[len_eq];exact h
 rw[ByteArray.data_extract,Array.toList_extract,List.extract_eq_take_drop,List.drop_eq_getElem_cons hk];simp;rfl
def wayM(E:List (UInt8×UInt8))(to:List UInt8)(ag:Bool):Nat:=2*nfE E to+(if ag=true then 1 else 0)
def strOf:Value→List UInt8
 | .string s=>s.data.toList
 | _=>[]
def boolOf:Value→Bool
 | .bool b=>b
 | _=>false
set_option maxHeartbeats 1600000 in
theorem refway_any(eg:ByteArray)(a b:UInt8)(w:World)(hs:eg.size≤1000)(r:Bool)(hr:r=true↔WayE (prs eg.data.toList) a b) :
  Calls Tryz.prog 102 #[.string eg,.int .u8 a.toNat,.int .u8 b.toNat] w fun e w'=>e=.returned (.bool r)∧w'=w:=by
 have HR:Hid (r=true↔WayE (prs eg.data.toList) a b):=hr;clear hr;have hpl:(prs eg.data.toList).length≤500:=by have:=prs_len eg.data.toList;rw[len_eq]at this;omega
 have HPL:Hid ((prs eg.data.toList).length≤500):=hpl;clear hpl
 go_enter Tryz.func102,Tryz.ntmps102
 go_wp2
 go_loopw [7,8] (fun tv gv wr=>∃(to:ByteArray) (ag:Bool),tv=.string to∧gv=.bool ag∧WI (prs eg.data.toList) a to.data.toList ag∧wr=w) (fun tv gv _=>wayM (prs eg.data.toList) (strOf tv) (boolOf gv))
 case atStart=>exact⟨⟨#[]⟩,true,rfl,rfl,WI.start,rfl⟩
 case round=>
  obtain⟨to,ag,rfl,rfl,hwi,hw0⟩:=hrel;have HW:Hid (WI (prs eg.data.toList) a to.data.toList ag):=hwi;have HW0:Hid (wr=w):=hw0;clear hwi hw0;cases hag:ag with
  | true=>
   rw[hag]at HW;clear hag;go_wp2
   go_loopw [7,8,9] (fun tv gv iv wr=>∃(to2:ByteArray) (ag2:Bool) (i:Nat),tv=.string to2∧gv=.bool ag2∧iv=.int .i64 i∧i≤eg.size+1∧WJ eg.data.toList a to.data.toList to2.data.toList ag2 i∧wr=w) (fun _ _ iv _=>eg.size+1-(intOf iv).toNat)
   case atStart=>exact⟨to,false,0,rfl,rfl,rfl,by omega,HW.out.pass,HW0.out⟩
   case round=>
    obtain⟨to2,ag2,i,rfl,rfl,rfl,hi,hwj,hwr⟩:=hrel;have HWR:Hid (wr=w):=hwr;have HJ:Hid (WJ eg.data.toList a to.data.toList to2.data.toList ag2 i):=hwj;clear hwr hwj;have hts:to2.size≤500:=by
     have:=HJ.out.2.2.1;rw[len_eq]at this;have:=HPL.out;omega
    by_cases hlt:i+1<eg.size
    ·have hl':i+1<eg.data.toList.length:=by rw[len_eq];exact hlt
     obtain⟨x,hx⟩:∃x,x=eg[i]'(Nat.lt_of_succ_lt hlt):=⟨_,rfl⟩;obtain⟨y,hy⟩:∃y,y=eg[i+1]'hlt:=⟨_,rfl⟩;have hx':=hx.symm;have hy':=hy.symm;have IX:=fun wx=>in_any to2 x wx (by unfold maxLen;omega)
     have IY:=fun wx=>in_any to2 y wx (by unfold maxLen;omega)
     obtain⟨c,hc⟩:∃c:ByteArray,c=eg.extract (i+1) (i+2):=⟨_,rfl⟩;have hc':=hc.symm;have HC:Hid (c.data.toList=[y]):=by
      show c.data.toList=[y];rw[hc,hy];exact cut_one eg (i+1) hlt
     have hcs:c.size=1:=by rw[←len_eq,HC.out];rfl
     have HX:Hid (eg.data.toList[i]=x):=by show eg.data.toList[i]=x;rw[hx];rfl
     have HY:Hid (eg.data.toList[i+1]=y):=by show eg.data.toList[i+1]=y;rw[hy];rfl
     have HL:Hid (i+1<eg.data.toList.length):=hl';have HN:Hid ((to2++c).data.toList=to2.data.toList++[y]):=by
      show(to2++c).data.toList=_;rw[cat_data,HC.out]
     clear hc hx hy;cases hiy:inU to2.data.toList y with
     | true=>
      have HMI:Hid (WJ eg.data.toList a to.data.toList to2.data.toList ag2 (i+2)):=HJ.out.miss hl' HX.out HY.out (.inr hiy);have HIY:Hid (∀wx,Calls Tryz.prog 21 #[.string to2,.int .u8 (y.toNat:Int)] wx fun e w'=>e=.returned (.bool true)∧w'=wx):=by
       intro wx;have:=IY wx;rw[hiy]at this;exact this
      clear hiy IY
      by_cases he:x=a
      ·have be:((x.toNat:Int)==(a.toNat:Int))=true:=by rw[he];simp
       clear he IX
       go_wp2_with fail
       refine(HIY.out _).mono ?_;rintro e w' ⟨rfl,rfl⟩;go_wp2;exact⟨⟨to2,ag2,i+2,rfl,rfl,by go_num,by omega,HMI.out,HWR.out⟩,by simp[intOf];omega⟩
      ·have be:((x.toNat:Int)==(a.toNat:Int))=false:=by
        rw[u8q];simpa using he
       cases hix:inU to2.data.toList x with
       | true=>
        have HIX:Hid (∀wx,Calls Tryz.prog 21 #[.string to2,.int .u8 (x.toNat:Int)] wx fun e w'=>e=.returned (.bool true)∧w'=wx):=by
         intro wx;have:=IX wx;rw[hix]at this;exact this
        clear he hix IX
        go_wp2_with fail
        refine(HIX.out _).mono ?_;rintro e w' ⟨rfl,rfl⟩
        go_wp2_with fail
        refine(HIY.out _).mono ?_;rintro e w' ⟨rfl,rfl⟩;go_wp2;exact⟨⟨to2,ag2,i+2,rfl,rfl,by go_num,by omega,HMI.out,HWR.out⟩,by simp[intOf];omega⟩
       | false=>
        have HIX:Hid (∀wx,Calls Tryz.prog 21 #[.string to2,.int .u8 (x.toNat:Int)] wx fun e w'=>e=.returned (.bool false)∧w'=wx):=by
         intro wx;have:=IX wx;rw[hix]at this;exact this
        clear he hix IX
        go_wp2_with fail
        refine(HIX.out _).mono ?_;rintro e w' ⟨rfl,rfl⟩
        go_wp2_with fail
        refine(HIY.out _).mono ?_;rintro e w' ⟨rfl,rfl⟩;go_wp2;exact⟨⟨to2,ag2,i+2,rfl,rfl,by go_num,by omega,HMI.out,HWR.out⟩,by simp[intOf];omega⟩
     | false=>
      have HHF:Hid (x=a∨inU to2.data.toList x=true→WJ eg.data.toList a to.data.toList (to2++c).data.toList true (i+2)):=by
       intro h1;rw[HN.out];exact HJ.out.hit hl' HX.out HY.out h1 hiy
      have HIY:Hid (∀wx,Calls Tryz.prog 21 #[.string to2,.int .u8 (y.toNat:Int)] wx fun e w'=>e=.returned (.bool false)∧w'=wx):=by
       intro wx;have:=IY wx;rw[hiy]at this;exact this
      clear hiy IY
      by_cases he:x=a
      ·have be:((x.toNat:Int)==(a.toNat:Int))=true:=by rw[he];simp
       have HHI:Hid (WJ eg.data.toList a to.data.toList (to2++c).data.toList true (i+2)):=HHF.out (.inl he);clear he IX HHF
       go_wp2_with fail
       refine(HIY.out _).mono ?_;rintro e w' ⟨rfl,rfl⟩;go_wp2;exact⟨⟨to2++c,true,i+2,rfl,rfl,by go_num,by omega,HHI.out,HWR.out⟩,by simp[intOf];omega⟩
      ·have be:((x.toNat:Int)==(a.toNat:Int))=false:=by
        rw[u8q];simpa using he
       cases hix:inU to2.data.toList x with
       | true=>
        have HHI:Hid (WJ eg.data.toList a to.data.toList (to2++c).data.toList true (i+2)):=HHF.out (.inr hix);have HIX:Hid (∀wx,Calls Tryz.prog 21 #[.string to2,.int .u8 (x.toNat:Int)] wx fun e w'=>e=.returned (.bool true)∧w'=wx):=by
         intro wx;have:=IX wx;rw[hix]at this;exact this
        clear he hix IX HHF
        go_wp2_with fail
        refine(HIX.out _).mono ?_;rintro e w' ⟨rfl,rfl⟩
        go_wp2_with fail
        refine(HIY.out _).mono ?_;rintro e w' ⟨rfl,rfl⟩;go_wp2;exact⟨⟨to2++c,true,i+2,rfl,rfl,by go_num,by omega,HHI.out,HWR.out⟩,by simp[intOf];omega⟩
       | false=>
        have HMI:Hid (WJ eg.data.toList a to.data.toList to2.data.toList ag2 (i+2)):=HJ.out.miss hl' HX.out HY.out (.inl (by rintro(h|h);exact he h;rw[hix]at h;exact Bool.noConfusion h));have HIX:Hid (∀wx,Calls Tryz.prog 21 #[.string to2,.int .u8 (x.toNat:Int)] wx fun e w'=>e=.returned (.bool false)∧w'=wx):=by
         intro wx;have:=IX wx;rw[hix]at this;exact this
        clear he hix IX HHF
        go_wp2_with fail
        refine(HIX.out _).mono ?_;rintro e w' ⟨rfl,rfl⟩
        go_wp2_with fail
        refine(HIY.out _).mono ?_;rintro e w' ⟨rfl,rfl⟩;go_wp2;exact⟨⟨to2,ag2,i+2,rfl,rfl,by go_num,by omega,HMI.out,HWR.out⟩,by simp[intOf];omega⟩
    ·have HD:=HJ.out.done HW.out (by rw[len_eq];exact hlt);have HDI:Hid (WI (prs eg.data.toList) a to2.data.toList ag2):=HD.1;have HDM:Hid (wayM (prs eg.data.toList) to2.data.toList ag2<wayM (prs eg.data.toList) to.data.toList true):=by
      show wayM _ _ _<wayM _ _ _;unfold wayM;rw[if_pos rfl]
      split
      ·have:=HD.2.1 (by assumption);omega
      ·have:=HD.2.2;omega
     clear HD;go_wp2;exact⟨⟨to2,ag2,rfl,rfl,HDI.out,HWR.out⟩,HDM.out⟩
  | false=>
   rw[hag]at HW;clear hag;have HF:Hid (inU to.data.toList b=r):=by
    show inU to.data.toList b=r;have:=way_gathered _ _ _ HW.out.1 (HW.out.2.2 rfl) b;rw[Bool.eq_iff_iff,inU_mem,this,HR.out]
   have hts:to.size≤500:=by
    have:=HW.out.2.1;rw[len_eq]at this;have:=HPL.out;omega
   go_wp2_with fail
   refine(in_any to b _ (by unfold maxLen;omega)).mono ?_;rintro e w' ⟨rfl,rfl⟩;rw[HF.out];go_wp2;go_ret;exact⟨rfl,HW0.out⟩
theorem tks_walk{p:List UInt8}{mks:List MK}(ha:Acc p mks){k:Nat}{c:UInt8}(hlt:(tw p k).i<p.length)(hc:p[(tw p k).i]?=some c) :
  tks (tw p k).now (p.drop (tw p k).i)=(if c=91∨c=60 then [(c,(p[(tw p k).i+1]?).getD 0,(tw p k).now)]else [])++tks (tw p (k+1)).now (p.drop (tw p (k+1)).i):=by
 obtain⟨hroom,_⟩:=acc_room ha hlt hc;obtain⟨t1,t2,_,_⟩:=tw_at hlt hc;rw[t1,t2];have hd:p.drop (tw p k).i=c::p.drop ((tw p k).i+1):=by
  rw[List.drop_eq_getElem_cons hlt];rw[List.getElem?_eq_getElem hlt]at hc;rw[Option.some.inj hc]
 rw[hd]
 by_cases h2:sizeU c=2
 ·have hlt2:(tw p k).i+1<p.length:=by omega
  have hd2:p.drop ((tw p k).i+1)=p[(tw p k).i+1]::p.drop ((tw p k).i+2):=by rw[List.drop_eq_getElem_cons hlt2]
  have hg:p[(tw p k).i+1]?=some p[(tw p k).i+1]:=List.getElem?_eq_getElem hlt2;rw[hd2,h2];have hcase:(c=103∨c=112∨c=105)∨(c=91∨c=60):=by
   by_cases h3:inU [103,112,105,91,60] c=true
   ·simp[inU]at h3;rcases h3 with rfl|rfl|rfl|rfl|rfl<;>simp
   ·rw[sizeU,if_neg h3]at h2;exact absurd h2 (by decide)
  rcases hcase with h3|h3
  ·have nt:¬(c=91∨c=60):=by rcases h3 with rfl|rfl|rfl<;>decide
   have ng:¬(c=93∨c=62):=by rcases h3 with rfl|rfl|rfl<;>decide
   have hh:heldU (tw p k).now p (tw p k).i=(tw p k).now:=by
    rw[heldU,hc];simp only;rw[if_neg nt,if_neg ng]
   rw[hh,tks_two h3,if_neg nt];rfl
  ·have hh:heldU (tw p k).now p (tw p k).i=(tw p k).now++[p[(tw p k).i+1]]:=by
    rw[heldU,hc];simp only;rw[if_pos h3,hg];rfl
   rw[hh,tks_take h3,if_pos h3,hg];rfl
 ·have h1:sizeU c=1:=by
   unfold sizeU at h2 ⊢
   split<;>simp_all
  have nt:¬(c=91∨c=60):=by rintro(rfl|rfl)<;>exact absurd h1 (by decide)
  rw[h1,if_neg nt,List.nil_append]
  by_cases h3:c=93∨c=62
  ·have hh:heldU (tw p k).now p (tw p k).i=(tw p k).now.dropLast:=by
    rw[heldU,hc];simp only;rw[if_neg nt,if_pos h3]
   rw[hh,tks_give h3]
  ·have hh:heldU (tw p k).now p (tw p k).i=(tw p k).now:=by
    rw[heldU,hc];simp only;rw[if_neg nt,if_neg h3]
   rw[hh,tks_skip h1 (fun e=>h3 (.inl e)) (fun e=>h3 (.inr e))]
def FP(E:List (UInt8×UInt8))(x:UInt8×UInt8×List UInt8):Prop:=x.1=60→∀l∈x.2.2,¬WayE E x.2.1 l
theorem ordI_len(mks:List MK)(i:Nat):∀k,(ordI mks i k).length≤2*k:=by
 intro k
 induction k with
 | zero=>exact Nat.le_refl _
 | succ k ih=>
  rw[ordI,List.length_append]
  split<;>simp<;>omega
theorem ordL_len(mks:List MK):∀i,(ordL mks i).length≤10*i:=by
 intro i
 induction i with
 | zero=>exact Nat.le_refl _
 | succ i ih=>
  rw[ordL,List.length_append];have:=ordI_len mks i 5;omega
def FW(E:List (UInt8×UInt8))(p:List UInt8)(j:Nat):Prop:=
 (∀x∈tks [] p,FP E x)↔(∀x∈tks (tw p j).now (p.drop (tw p j).i),FP E x)
theorem FW.start(E:List (UInt8×UInt8))(p:List UInt8):FW E p 0:=by
 show _↔(∀x∈tks [] (p.drop 0),FP E x);rw[List.drop_zero]
theorem FW.pass{E:List (UInt8×UInt8)}{p:List UInt8}{mks:List MK}(ha:Acc p mks){k:Nat}{c:UInt8}(hlt:(tw p k).i<p.length)(hc:p[(tw p k).i]?=some c)(h:FW E p k)
  (h6:c=60→∀l∈(tw p k).now,¬WayE E ((p[(tw p k).i+1]?).getD 0) l):FW E p (k+1):=by
 unfold FW at h ⊢;rw[h,tks_walk ha hlt hc];constructor
 ·intro hx x hm;exact hx x (List.mem_append_right _ hm)
 ·intro hx x hm;rcases List.mem_append.1 hm with hm|hm
  ·split at hm
   ·rw[List.mem_singleton]at hm;rw[hm];intro e;exact h6 e
   ·cases hm
  ·exact hx x hm
theorem FW.stop{E:List (UInt8×UInt8)}{p:List UInt8}{mks:List MK}(ha:Acc p mks){k:Nat}(hlt:(tw p k).i<p.length)(hc:p[(tw p k).i]?=some 60)(h:FW E p k)
  {l:UInt8}(hl:l∈(tw p k).now)(hw:WayE E ((p[(tw p k).i+1]?).getD 0) l):¬(∀x∈tks [] p,FP E x):=by
 unfold FW at h;rw[h,tks_walk ha hlt hc];intro hx;refine hx (60,(p[(tw p k).i+1]?).getD 0,(tw p k).now) (List.mem_append_left _ ?_) rfl l hl hw;rw[if_pos (by decide)];exact List.mem_singleton.2 rfl
theorem FW.done{E:List (UInt8×UInt8)}{p:List UInt8}{k:Nat}(hlt:¬(tw p k).i<p.length)(h:FW E p k):∀x∈tks [] p,FP E x:=by
 unfold FW at h;rw[h,List.drop_eq_nil_of_le (by omega)];intro x hx;simp[tks]at hx
set_option maxHeartbeats 1600000 in
set_option maxRecDepth 100000 in
theorem reffair_any(s:ByteArray)(mks:List MK)(w:World)(h:s.size≤240)(ha:Acc s.data.toList mks)(r:Bool)(hr:r=true↔∀x∈tks [] s.data.toList,FP (prs (ordL mks 5)) x) :
  Calls Tryz.prog 79 #[.string s] w fun e w'=>e=.returned (.bool r)∧∃q,w'=w.drewN q:=by
 have HA:Hid (Acc s.data.toList mks):=ha;have HR:Hid (r=true↔∀x∈tks [] s.data.toList,FP (prs (ordL mks 5)) x):=hr;have HO:=order_any s mks w h ha;clear ha hr;obtain⟨E,hE⟩:∃E:ByteArray,E=⟨(ordL mks 5).toArray⟩:=⟨_,rfl⟩;rw[←hE]at HO;have hEs:E.size≤1000:=by
  have:=ordL_len mks 5;rw[hE,←len_eq];simpa using Nat.le_trans this (by decide)
 have HE:Hid (E.data.toList=ordL mks 5):=by show E.data.toList=_;rw[hE]
 clear hE;rw[←HE.out]at HR;have HW:Hid (∀(a b:UInt8) (w:World) (r:Bool),(r=true↔WayE (prs E.data.toList) a b)→Calls Tryz.prog 102 #[.string E,.int .u8 a.toNat,.int .u8 b.toNat] w fun e w'=>e=.returned (.bool r)∧w'=w):=fun a b w r hr=>refway_any E a b w hEs r hr
 clear hEs
 go_enter Tryz.func79,Tryz.ntmps79
 go_wp2_with fail
 refine HO.mono ?_;clear HO;rintro e w' ⟨rfl,q0,rfl⟩;go_wp2
 go_loopw [4,5] (fun nw i wr=>∃(k j q:Nat) (now:ByteArray),i=.int .i64 k∧nw=.string now∧(tw s.data.toList j).i=k∧(tw s.data.toList j).now=now.data.toList∧now.size≤k∧k≤s.size∧FW (prs E.data.toList) s.data.toList j∧wr=w.drewN q) (fun _ i _=>s.size-(intOf i).toNat)
 case atStart=>exact⟨0,0,q0,⟨#[]⟩,rfl,rfl,rfl,rfl,by decide,Nat.zero_le _,FW.start _ _,rfl⟩
 case round=>
  obtain⟨k,j,q,now,rfl,rfl,hki,hkn,hns,hks,hfw,hwr⟩:=hrel;have HWR:Hid (wr=w.drewN q):=hwr;have HF:Hid (FW (prs E.data.toList) s.data.toList j):=hfw;clear hwr hfw
  by_cases hlt:k<s.size
  ·have hlt':(tw s.data.toList j).i<s.data.toList.length:=by rw[hki,len_eq];exact hlt
   have hc:s.data.toList[(tw s.data.toList j).i]?=some s[k]:=by rw[hki];exact byteAt s k hlt
   obtain⟨t1,t2,t3,t4⟩:=tw_at hlt' hc;obtain⟨room,l,hl⟩:=acc_room HA.out hlt' hc;rw[hki,len_eq]at room;rw[hki]at t1 t2;rw[hkn]at t2;have hz:=sizeU_pos s[k];have T1:Hid ((tw s.data.toList (j+1)).i=k+sizeU s[k]):=t1;have T2:Hid ((tw s.data.toList (j+1)).now=heldU now.data.toList s.data.toList k):=t2;have HLEN:Hid ((heldU now.data.toList s.data.toList k).length≤now.size+1):=by
    have:=heldU_len now.data.toList s.data.toList k;rw[len_eq]at this;exact this
   have HSZ2:Hid (s[k]=91∨s[k]=60→k+1<s.size):=by
    intro h';have:sizeU s[k]=2:=by rcases h' with h'|h'<;>rw[h']<;>rfl
    omega
   have FP':Hid ((s[k]=60→∀l∈now.data.toList,¬WayE (prs E.data.toList) ((s.data.toList[k+1]?).getD 0) l)→FW (prs E.data.toList) s.data.toList (j+1)):=by
    intro h6;refine HF.out.pass HA.out hlt' hc ?_;rw[hki,hkn];exact h6
   obtain⟨z,hzz⟩:∃z,z=sizeU s[k]:=⟨_,rfl⟩;have HSIZE:Hid (∀wx,Calls Tryz.prog 20 #[.int .u8 (s[k].toNat:Int)] wx fun e w'=>e=.returned (.int .i64 z)∧w'=wx):=by
    intro wx;rw[hzz];exact size_any s[k] wx
   rw[←hzz]at T1 room hz
   by_cases h60:s[k]=60
   ·have b60:((s[k].toNat:Int)==60)=true:=by rw[h60];rfl
    have hk1:k+1<s.size:=HSZ2.out (.inr h60);have hd:s.data.toList[k+1]?=some s[k+1]:=byteAt s (k+1) hk1;rw[hd,Option.getD_some]at FP';have ST:Hid (∀l∈now.data.toList,WayE (prs E.data.toList) s[k+1] l→r=false):=by
     intro l hl hw;have:=HF.out.stop HA.out hlt' (by rw[hc,h60]) (l:=l) (by rw[hkn];exact hl) (by rw[hki,hd];exact hw);cases hr:r with
     | false=>rfl
     | true=>exact absurd (HR.out.1 hr) this
    have HS60:Hid (∀wx,Calls Tryz.prog 20 #[.int .u8 60] wx fun e w'=>e=.returned (.int .i64 z)∧w'=wx):=by
     intro wx;have:=HSIZE.out wx;rw[h60]at this;exact this
    clear t1 t2 t3 t4 hl hki hkn hlt' hc hd hzz HSIZE;go_wp2
    go_loopw [6] (fun mv wr=>∃m q:Nat,m≤now.size∧mv=.int .i64 m∧(∀l∈now.data.toList.take m,¬WayE (prs E.data.toList) s[k+1] l)∧wr=w.drewN q) (fun mv _=>now.size-(intOf mv).toNat)
    case atStart=>exact⟨0,q,Nat.zero_le _,rfl,fun l hl=>absurd hl (by simp),HWR.out⟩
    case round=>
     obtain⟨m,q,hm,rfl,hno,hwr⟩:=hrel;have HWR2:Hid (wr=w.drewN q):=hwr;have HNO:Hid (∀l∈now.data.toList.take m,¬WayE (prs E.data.toList) s[k+1] l):=hno;clear hwr hno;have hk1i:(k:Int)+1<(s.size:Int):=by omega
     have hk1n:(0:Int)≤(k:Int)+1:=by omega
     by_cases hmlt:m<now.size
     ·have hmem:now[m]∈now.data.toList:=by
       have:m<now.data.toList.length:=by rw[len_eq];exact hmlt
       exact List.getElem_mem this
      by_cases hway:WayE (prs E.data.toList) s[k+1] now[m]
      ·have HRF:Hid (r=false):=ST.out _ hmem hway;have HWW:Hid (∀wx,Calls Tryz.prog 102 #[.string E,.int .u8 s[k+1].toNat,.int .u8 now[m].toNat] wx fun e w'=>e=.returned (.bool true)∧w'=wx):=fun wx=>HW.out s[k+1] now[m] wx true ⟨fun _=>hway,fun _=>rfl⟩
       clear hway hmem;go_wp2
       go_quiet ((go_at_call 102;exact Calls.quiet_of_same (HWW.out _)))
       go_wp2;go_ret;rw[HRF.out];exact⟨rfl,_,by rw[HWR2.out,World.drewN_drewN]⟩
      ·have HWW:Hid (∀wx,Calls Tryz.prog 102 #[.string E,.int .u8 s[k+1].toNat,.int .u8 now[m].toNat] wx fun e w'=>e=.returned (.bool false)∧w'=wx):=fun wx=>HW.out s[k+1] now[m] wx false ⟨fun e=>Bool.noConfusion e,fun e=>absurd e hway⟩
       have HNO2:Hid (∀l∈now.data.toList.take (m+1),¬WayE (prs E.data.toList) s[k+1] l):=by
        intro l hl;rw[take_snoc now m hmlt,List.mem_append,List.mem_singleton]at hl;rcases hl with hl|rfl
        ·exact HNO.out l hl
        ·exact hway
       clear hway hmem;go_wp2
       go_quiet ((go_at_call 102;exact Calls.quiet_of_same (HWW.out _)))
       go_wp2;exact⟨⟨m+1,_,by omega,by go_num,HNO2.out,by rw[HWR2.out,World.drewN_drewN]⟩,by simp[intOf];omega⟩
     ·have HFN:Hid (FW (prs E.data.toList) s.data.toList (j+1)):=by
       refine FP'.out (fun _ l hl=>HNO.out l ?_);rw[List.take_of_length_le (by rw[len_eq];omega)];exact hl
      go_wp2_with fail
      refine(held_any now s k _ (by omega) (by omega) hlt HSZ2.out).mono ?_;rintro e w' ⟨g,rfl,hg,rfl⟩;have HG:Hid (g.data.toList=heldU now.data.toList s.data.toList k):=hg;clear hg
      go_wp2_with fail
      refine(HS60.out _).mono ?_;rintro e w' ⟨rfl,rfl⟩;go_wp2;refine⟨⟨k+z,j+1,q,g,by go_num,rfl,T1.out,by rw[T2.out,HG.out],?_,by omega,HFN.out,HWR2.out⟩,by simp[intOf];omega⟩;have:=HLEN.out;rw[←HG.out,len_eq]at this;omega
   ·have b60:((s[k].toNat:Int)==60)=false:=u8g h60;have HFN:Hid (FW (prs E.data.toList) s.data.toList (j+1)):=FP'.out (fun e=>absurd e h60);clear t1 t2 t3 t4 hl hki hkn hlt' hc hzz FP' h60
    go_wp2_with fail
    refine(held_any now s k _ (by omega) (by omega) hlt HSZ2.out).mono ?_;rintro e w' ⟨g,rfl,hg,rfl⟩;have HG:Hid (g.data.toList=heldU now.data.toList s.data.toList k):=hg;clear hg
    go_wp2_with fail
    refine(HSIZE.out _).mono ?_;rintro e w' ⟨rfl,rfl⟩;go_wp2
    go_round
    case rel=>
     refine⟨k+z,j+1,q,g,by go_num,rfl,T1.out,by rw[T2.out,HG.out],?_,by omega,HFN.out,HWR.out⟩;have:=HLEN.out;rw[←HG.out,len_eq]at this;omega
    case measure=>simp[intOf];omega
  ·have HRT:Hid (r=true):=HR.out.2 (HF.out.done (by rw[hki,len_eq];exact hlt));go_wp2;go_ret;rw[HRT.out];exact⟨rfl,q,HWR.out⟩
theorem prs_append_two(l m:List UInt8)(n:Nat)(h:l.length=2*n):prs (l++m)=prs l++prs m:=by
 induction n generalizing l with
 | zero=>
  have:l=[]:=List.length_eq_zero_iff.1 (by omega);subst this;rfl
 | succ n ih=>
  match l,h with
  | a::b::l,h=>
   simp only[List.length_cons]at h;show(a,b)::prs (l++m)=(a,b)::prs l++prs m;rw[ih l (by omega)];rfl
theorem ordI_even(mks:List MK)(i:Nat):∀k,∃n,(ordI mks i k).length=2*n:=by
 intro k
 induction k with
 | zero=>exact⟨0,rfl⟩
 | succ k ih=>
  obtain⟨n,hn⟩:=ih;rw[ordI,List.length_append]
  split
  ·exact⟨n+1,by simp;omega⟩
  ·exact⟨n,by simp;omega⟩
theorem ordL_even(mks:List MK):∀i,∃n,(ordL mks i).length=2*n:=by
 intro i
 induction i with
 | zero=>exact⟨0,rfl⟩
 | succ i ih=>
  obtain⟨n,hn⟩:=ih;obtain⟨m,hm⟩:=ordI_even mks i 5;rw[ordL,List.length_append];exact⟨n+m,by omega⟩
theorem ordI_prs(mks:List MK)(i:Nat):∀k (e:UInt8×UInt8),e∈prs (ordI mks i k)↔∃j,j<k∧edgeN mks i j=true∧e=(UInt8.ofNat (65+i),UInt8.ofNat (65+j)):=by
 intro k
 induction k with
 | zero=>intro e;simp[ordI,prs]
 | succ k ih=>
  intro e;obtain⟨n,hn⟩:=ordI_even mks i k;rw[ordI,prs_append_two _ _ n hn,List.mem_append,ih e];constructor
  ·rintro(⟨j,h1,h2⟩|h)
   ·exact⟨j,by omega,h2⟩
   ·split at h
    ·rename_i he;exact⟨k,by omega,he,by simpa[prs]using h⟩
    ·cases h
  ·rintro⟨j,h1,h2,h3⟩
   by_cases hj:j=k
   ·subst hj;right;rw[if_pos h2,h3];simp[prs]
   ·exact .inl ⟨j,by omega,h2,h3⟩
theorem ordL_prs(mks:List MK):∀i (e:UInt8×UInt8),e∈prs (ordL mks i)↔∃n j,n<i∧j<5∧edgeN mks n j=true∧e=(UInt8.ofNat (65+n),UInt8.ofNat (65+j)):=by
 intro i
 induction i with
 | zero=>intro e;simp[ordL,prs]
 | succ i ih=>
  intro e;obtain⟨n,hn⟩:=ordL_even mks i;rw[ordL,prs_append_two _ _ n hn,List.mem_append,ih e,ordI_prs];constructor
  ·rintro(⟨a,j,h1,h2,h3⟩|⟨j,h1,h2⟩)
   ·exact⟨a,j,by omega,h2,h3⟩
   ·exact⟨i,j,by omega,h1,h2⟩
  ·rintro⟨a,j,h1,h2,h3⟩
   by_cases ha:a=i
   ·subst ha;exact .inr ⟨j,h2,h3⟩
   ·exact .inl ⟨a,j,by omega,h2,h3⟩
theorem lock_num{a:UInt8}(h:inU [65,66,67,68,69] a=true):∃n,n<5∧a=UInt8.ofNat (65+n):=by
 rw[inU_mem]at h;simp only[List.mem_cons,List.not_mem_nil,or_false]at h;rcases h with rfl|rfl|rfl|rfl|rfl
 ·exact⟨0,by omega,rfl⟩
 ·exact⟨1,by omega,rfl⟩
 ·exact⟨2,by omega,rfl⟩
 ·exact⟨3,by omega,rfl⟩
 ·exact⟨4,by omega,rfl⟩
theorem edges_iff{p:List UInt8}{mks:List MK}(ha:Acc p mks)(h:∀a∈splitBar p,TD [] [] a)(a b:UInt8):(a,b)∈prs (ordL mks 5)↔edgeT (TKp p) a b:=by
 have key:∀n j,n<5→(edgeN mks n j=true↔edgeT (TKp p) (UInt8.ofNat (65+n)) (UInt8.ofNat (65+j))):=by
  intro n j hn;rw[←edge_iff ha (abcde n hn).2.1,edgeN,List.any_eq_true];constructor
  ·rintro⟨m,hm,he⟩;simp only[edgeB,Bool.and_eq_true,beq_iff_eq]at he;exact⟨m,hm,he.1,he.2.1,he.2.2⟩
  ·rintro⟨m,hm,h1,h2,h3⟩;refine⟨m,hm,?_⟩;simp only[edgeB,Bool.and_eq_true,beq_iff_eq];exact⟨h1,h2,h3⟩
 rw[ordL_prs];constructor
 ·rintro⟨n,j,hn,hj,he,e⟩;obtain⟨rfl,rfl⟩:=Prod.mk.inj e;exact(key n j hn).1 he
 ·intro he;obtain⟨c,H,hx,hk⟩:=he;have:=tks_locks h (c,b,H) hx;obtain⟨n,hn,rfl⟩:=lock_num (this.2 a hk);obtain⟨j,hj,rfl⟩:=lock_num this.1;exact⟨n,j,hn,hj,(key n j hn).2 ⟨c,H,hx,hk⟩,rfl⟩
theorem fairT_iff{p:List UInt8}{mks:List MK}(ha:Acc p mks)(h:∀a∈splitBar p,TD [] [] a):(∀x∈tks [] p,FP (prs (ordL mks 5)) x)↔FairT (TKp p):=by
 have hw:=wayE_iff (edges_iff ha h);constructor
 ·intro hx v H hm k hk hw';exact hx (60,v,H) hm rfl k hk ((hw v k).2 hw')
 ·rintro hf ⟨c,v,H⟩ hx hc l hl hw';simp only at hc hl hw';subst hc;exact hf v H hx l hl ((hw v l).1 hw')
end Go.Proofs.YtdgkpkdinfklaabGreat
