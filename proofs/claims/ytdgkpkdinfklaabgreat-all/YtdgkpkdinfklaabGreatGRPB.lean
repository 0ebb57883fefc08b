import Derived.Test.YtdgkpkdinfklaabGreatGRPA
import Derived.Test.YtdgkpkdinfklaabGreatGF
import Derived.Test.YtdgkpkdinfklaabGreatGU
import Derived.Test.YtdgkpkdinfklaabGreatGV
import Derived.Test.YtdgkpkdinfklaabGreatXOpen
namespace Go.Proofs.YtdgkpkdinfklaabGreat
open Go.RowKit
def chF(Z:Nat→Int)(ln:Nat)(k:Nat):Option UInt8:=if k<ln∧0<choN (Z k)then some (UInt8.ofNat (64+choN (Z k)))else none
theorem lay_walk_acc{ch:Nat→Option UInt8}{kk k:Nat}{S:List UInt8}{c:UInt8}(hk:S[k]?=some c)(h2:k+1<S.length)(h:c=103∨c=112) :
  lay ch kk (S.drop k)=(match ch kk with|some l=>[60,l]++(S.drop k).take 2++[62]|none=>(S.drop k).take 2)++lay ch (kk+1) (S.drop (k+2)):=by
 have hl:k<S.length:=by omega
 have e:S.drop k=c::S[k+1]::S.drop (k+2):=by
  rw[List.drop_eq_getElem_cons hl,List.drop_eq_getElem_cons h2];rw[List.getElem?_eq_getElem hl]at hk;rw[Option.some.inj hk]
 rw[e,lay_acc h];cases ch kk<;>rfl
theorem lay_walk_one{ch:Nat→Option UInt8}{kk k:Nat}{S:List UInt8}{c:UInt8}(hk:S[k]?=some c)(hr:k+sizeU c≤S.length)(h:¬(c=103∨c=112)) :
  lay ch kk (S.drop k)=(S.drop k).take (sizeU c)++lay ch kk (S.drop (k+sizeU c)):=by
 have hp:=sizeU_pos c;have hl:k<S.length:=by omega
 have e:S.drop k=c::S.drop (k+1):=by
  rw[List.drop_eq_getElem_cons hl];rw[List.getElem?_eq_getElem hl]at hk;rw[Option.some.inj hk]
 by_cases h2:sizeU c=2
 ·rw[h2]at hr ⊢;have e2:S.drop (k+1)=S[k+1]'(by omega)::S.drop (k+2):=by rw[List.drop_eq_getElem_cons (by omega)]
  have hc:c=105∨c=91∨c=60:=by
   by_cases h3:inU [103,112,105,91,60] c=true
   ·simp[inU]at h3;rcases h3 with rfl|rfl|rfl|rfl|rfl
    ·exact absurd (.inl rfl) h
    ·exact absurd (.inr rfl) h
    ·exact .inl rfl
    ·exact .inr (.inl rfl)
    ·exact .inr (.inr rfl)
   ·rw[sizeU,if_neg h3]at h2;exact absurd h2 (by decide)
  rw[e,e2,lay,if_neg h,if_pos hc];rfl
 ·have h1:sizeU c=1:=by
   unfold sizeU at h2 ⊢
   split<;>simp_all
  rw[h1,e,lay_one h1];rfl
def NumsAt(w:World)(la:Option Addr)(ln:Nat)(Z:Nat→Int):Prop:=
 ∀j,j<ln→∃b off,la=some ⟨b,off,none⟩∧w.cell? ⟨b,off+j,none⟩=some (.int .i64 (Z j))∧-9223372036854775808≤Z j∧Z j≤9223372036854775807
def LW(ch:Nat→Option UInt8)(S:List UInt8)(o:List UInt8)(kk k:Nat):Prop:=lay ch 0 S=o++lay ch kk (S.drop k)
theorem LW.one{ch:Nat→Option UInt8}{S o:List UInt8}{kk k:Nat}{c:UInt8}(h:LW ch S o kk k)(hk:S[k]?=some c)(hr:k+sizeU c≤S.length)(hn:¬(c=103∨c=112)):LW ch S (o++(S.drop k).take (sizeU c)) kk (k+sizeU c):=by
 unfold LW at h ⊢;rw[h,lay_walk_one hk hr hn,List.append_assoc]
theorem LW.none{ch:Nat→Option UInt8}{S o:List UInt8}{kk k:Nat}{c:UInt8}(h:LW ch S o kk k)(hk:S[k]?=some c)(hr:k+1<S.length)(hn:c=103∨c=112)(hc:ch kk=none):LW ch S (o++(S.drop k).take 2) (kk+1) (k+2):=by
 unfold LW at h ⊢;rw[h,lay_walk_acc hk hr hn,hc,List.append_assoc]
theorem LW.some{ch:Nat→Option UInt8}{S o:List UInt8}{kk k:Nat}{c l:UInt8}(h:LW ch S o kk k)(hk:S[k]?=some c)(hr:k+1<S.length)(hn:c=103∨c=112)(hc:ch kk=some l):LW ch S (o++([60,l]++(S.drop k).take 2++[62])) (kk+1) (k+2):=by
 unfold LW at h ⊢;rw[h,lay_walk_acc hk hr hn,hc];simp only[List.append_assoc]
set_option maxHeartbeats 1600000 in
set_option maxRecDepth 100000 in
theorem refLaid_any(s:ByteArray)(mks:List MK)(w:World)(la:Option Addr)(ln lc:Nat)(Z:Nat→Int)(hl:ln≤maxLen)(hz:NumsAt w la ln Z)(h:s.size≤240)(ha:Acc s.data.toList mks)(g:ByteArray)(hg:g.data.toList=lay (chF Z ln) 0 s.data.toList) :
  Calls Tryz.prog 59 #[.string s,.slice la ln lc] w fun e w'=>e=.returned (.string g)∧∃q,w'=w.drewN q:=by
 have HA:Hid (Acc s.data.toList mks):=ha;have HG:Hid (g.data.toList=lay (chF Z ln) 0 s.data.toList):=hg;have HZ:Hid (NumsAt w la ln Z):=hz;clear ha hg hz;unfold maxLen at hl
 go_enter Tryz.func59,Tryz.ntmps59
 go_wp2
 go_loopw [5,6,7] (fun ov kv iv wr=>∃(k kk j q:Nat) (o:ByteArray),iv=.int .i64 k∧kv=.int .i64 kk∧ov=.string o∧(tw s.data.toList j).i=k∧LW (chF Z ln) s.data.toList o.data.toList kk k∧o.size≤3*k∧kk≤k∧k≤s.size∧wr=w.drewN q) (fun _ _ i _=>s.size-(intOf i).toNat)
 case atStart=>exact⟨0,0,0,0,⟨#[]⟩,rfl,rfl,rfl,rfl,by unfold LW;simp,by decide,by decide,Nat.zero_le _,rfl⟩
 case round=>
  obtain⟨k,kk,j,q,o,rfl,rfl,rfl,hki,hlw,hos,hkk,hks,hwr⟩:=hrel;have HWR:Hid (wr=w.drewN q):=hwr;have HLW:Hid (LW (chF Z ln) s.data.toList o.data.toList kk k):=hlw;clear hwr hlw
  by_cases hlt:k<s.size
  ·have hlt':(tw s.data.toList j).i<s.data.toList.length:=by rw[hki,len_eq];exact hlt
   have hc:s.data.toList[(tw s.data.toList j).i]?=some s[k]:=by rw[hki];exact byteAt s k hlt
   obtain⟨t1,_⟩:=tw_at hlt' hc;obtain⟨room,_⟩:=acc_room HA.out hlt' hc;rw[hki]at room t1 hc;have HC:Hid (s.data.toList[k]?=some s[k]):=hc;have HRM:Hid (k+sizeU s[k]≤s.data.toList.length):=room;rw[len_eq]at room;obtain⟨z,hzz⟩:∃z,z=sizeU s[k]:=⟨_,rfl⟩;have hz1:=sizeU_pos s[k];rw[←hzz]at room hz1 t1;have T1:Hid ((tw s.data.toList (j+1)).i=k+z):=t1;have hz2:z≤2:=by rw[hzz];unfold sizeU;split<;>omega
   obtain⟨pc,hpc⟩:∃pc:ByteArray,pc=s.extract k (k+z):=⟨_,rfl⟩;have HPC:Hid (pc.data.toList=(s.data.toList.drop k).take z):=by show pc.data.toList=_;rw[hpc,mid_data]
   have hpz:pc.size=z:=by
    rw[←len_eq,HPC.out,List.length_take,List.length_drop,len_eq];omega
   have hpos:0<pc.size:=by rw[hpz];exact hz1
   have hple:pc.size≤z:=Nat.le_of_eq hpz;have hp0:pc[0]'hpos=s[k]:=by
    have h0:pc.data.toList[0]?=some (pc[0]'hpos):=byteAt pc 0 hpos;rw[HPC.out,List.getElem?_take_of_lt (by omega),List.getElem?_drop,Nat.add_zero,HC.out]at h0;exact(Option.some.inj h0).symm
   have HS:Hid (∀wx,Calls Tryz.prog 20 #[.int .u8 (s[k].toNat:Int)] wx fun e w'=>e=.returned (.int .i64 z)∧w'=wx):=by
    intro wx;rw[hzz];exact size_any s[k] wx
   have HZZ:Hid (z=sizeU s[k]):=hzz;have hpc':=hpc.symm;clear t1 hzz hki hc hlt' hpc hpz
   by_cases hgp:s[k]=103∨s[k]=112
   ·have hz2':z=2:=by rw[HZZ.out];rcases hgp with h'|h'<;>rw[h']<;>rfl
    subst hz2';have hr1:k+1<s.data.toList.length:=by rw[len_eq];omega
    have HNO:Hid (chF Z ln kk=none→LW (chF Z ln) s.data.toList (o++pc).data.toList (kk+1) (k+2)):=by
     intro hc;rw[cat_data,HPC.out];exact HLW.out.none HC.out hr1 hgp hc
    have HSO:Hid (∀l,chF Z ln kk=some l→LW (chF Z ln) s.data.toList (o.data.toList++([60]++[l]++pc.data.toList++[62])) (kk+1) (k+2)):=by
     intro l hc;rw[HPC.out];exact HLW.out.some HC.out hr1 hgp hc
    have hos2:(o++pc).size≤3*(k+2):=by rw[ByteArray.size_append];omega
    clear hr1
    by_cases hg:s[k]=103
    ·have b1:((s[k].toNat:Int)==103)=true:=by rw[hg];rfl
     clear hg hgp
     by_cases hkl:kk<ln
     ·obtain⟨b,off,hla,hcell,r1,r2⟩:=HZ.out kk hkl;have hcell':wr.cell? ⟨b,off+kk,none⟩=some (.int .i64 (Z kk)):=by rw[HWR.out];exact hcell
      obtain⟨m,hm⟩:∃m,m=choN (Z kk):=⟨_,rfl⟩;have HCH:Hid (∀wx,Calls Tryz.prog 80 #[.int .i64 (Z kk)] wx fun e w'=>e=.returned (.int .i64 m)∧w'=wx):=by
       intro wx;rw[hm];exact choice_any (Z kk) wx r1 r2
      have hm6:m<6:=by rw[hm];exact choN_lt _
      have HM:Hid (m=choN (Z kk)):=hm;clear hm hcell;subst hla
      by_cases hm0:m=0
      ·have HN:Hid (LW (chF Z ln) s.data.toList (o++pc).data.toList (kk+1) (k+2)):=HNO.out (by rw[chF,if_neg (by rw[←HM.out,hm0];simp)]);subst hm0
       go_wp2_with fail
       refine(HS.out _).mono ?_;rintro e w' ⟨rfl,rfl⟩
       go_wp2_with fail
       refine(HCH.out _).mono ?_;rintro e w' ⟨rfl,rfl⟩
       go_wp2_with fail
       refine(HS.out _).mono ?_;rintro e w' ⟨rfl,rfl⟩;go_wp2
       go_round
       case rel=>exact⟨k+2,kk+1,j+1,q,o++pc,by go_num,by go_num,rfl,T1.out,HN.out,hos2,by omega,by omega,HWR.out⟩
       case measure=>simp[intOf];omega
      ·have HSO':Hid (∀e:ByteArray,e.data.toList=[UInt8.ofNat (64+m)]→LW (chF Z ln) s.data.toList (o++((ByteArray.mk #[60])++e++pc++(ByteArray.mk #[62]))).data.toList (kk+1) (k+2)∧(o++((ByteArray.mk #[60])++e++pc++(ByteArray.mk #[62]))).size≤3*(k+2)):=by
        intro e he;have es:e.size=1:=by rw[←len_eq,he];rfl
        refine⟨?_,?_⟩
        ·have:=HSO.out (UInt8.ofNat (64+m)) (by rw[chF,if_pos ⟨hkl,by rw[←HM.out];omega⟩,←HM.out]);rw[cat_data,cat_data,cat_data,cat_data,he];exact this
        ·rw[ByteArray.size_append,ByteArray.size_append,ByteArray.size_append,ByteArray.size_append,es];have e1:(ByteArray.mk #[60]).size=1:=rfl;have e2:(ByteArray.mk #[62]).size=1:=rfl;omega
       clear HNO HSO;have hmc:m=1∨m=2∨m=3∨m=4∨m=5:=by omega
       clear hm6 hm0 HM;rcases hmc with rfl|rfl|rfl|rfl|rfl
       ·obtain⟨HN1,hs1⟩:=HSO'.out ⟨#[65]⟩ rfl;have HN:Hid (LW (chF Z ln) s.data.toList (o++((ByteArray.mk #[60])++(ByteArray.mk #[65])++pc++(ByteArray.mk #[62]))).data.toList (kk+1) (k+2)):=HN1;have HS1:Hid ((o++((ByteArray.mk #[60])++(ByteArray.mk #[65])++pc++(ByteArray.mk #[62]))).size≤3*(k+2)):=hs1;clear HN1 hs1 HSO'
        go_wp2_with fail
        refine(HS.out _).mono ?_;rintro e w' ⟨rfl,rfl⟩
        go_wp2_with fail
        refine(HCH.out _).mono ?_;rintro e w' ⟨rfl,rfl⟩
        go_wp2_with fail
        refine(HS.out _).mono ?_;rintro e w' ⟨rfl,rfl⟩;go_wp2
        go_round
        case rel=>exact⟨k+2,kk+1,j+1,q,_,by go_num,by go_num,rfl,T1.out,HN.out,HS1.out,by omega,by omega,HWR.out⟩
        case measure=>simp[intOf];omega
       ·obtain⟨HN1,hs1⟩:=HSO'.out ⟨#[66]⟩ rfl;have HN:Hid (LW (chF Z ln) s.data.toList (o++((ByteArray.mk #[60])++(ByteArray.mk #[66])++pc++(ByteArray.mk #[62]))).data.toList (kk+1) (k+2)):=HN1;have HS1:Hid ((o++((ByteArray.mk #[60])++(ByteArray.mk #[66])++pc++(ByteArray.mk #[62]))).size≤3*(k+2)):=hs1;clear HN1 hs1 HSO'
        go_wp2_with fail
        refine(HS.out _).mono ?_;rintro e w' ⟨rfl,rfl⟩
        go_wp2_with fail
        refine(HCH.out _).mono ?_;rintro e w' ⟨rfl,rfl⟩
        go_wp2_with fail
        refine(HS.out _).mono ?_;rintro e w' ⟨rfl,rfl⟩;go_wp2
        go_round
        case rel=>exact⟨k+2,kk+1,j+1,q,_,by go_num,by go_num,rfl,T1.out,HN.out,HS1.out,by omega,by omega,HWR.out⟩
        case measure=>simp[intOf];omega
       ·obtain⟨HN1,hs1⟩:=HSO'.out ⟨#[67]⟩ rfl;have HN:Hid (LW (chF Z ln) s.data.toList (o++((ByteArray.mk #[60])++(ByteArray.mk #[67])++pc++(ByteArray.mk #[62]))).data.toList (kk+1) (k+2)):=HN1;have HS1:Hid ((o++((ByteArray.mk #[60])++(ByteArray.mk #[67])++pc++(ByteArray.mk #[62]))).size≤3*(k+2)):=hs1;clear HN1 hs1 HSO'
        go_wp2_with fail
        refine(HS.out _).mono ?_;rintro e w' ⟨rfl,rfl⟩
        go_wp2_with fail
        refine(HCH.out _).mono ?_;rintro e w' ⟨rfl,rfl⟩
        go_wp2_with fail
        refine(HS.out _).mono ?_;rintro e w' ⟨rfl,rfl⟩;go_wp2
        go_round
        case rel=>exact⟨k+2,kk+1,j+1,q,_,by go_num,by go_num,rfl,T1.out,HN.out,HS1.out,by omega,by omega,HWR.out⟩
        case measure=>simp[intOf];omega
       ·obtain⟨HN1,hs1⟩:=HSO'.out ⟨#[68]⟩ rfl;have HN:Hid (LW (chF Z ln) s.data.toList (o++((ByteArray.mk #[60])++(ByteArray.mk #[68])++pc++(ByteArray.mk #[62]))).data.toList (kk+1) (k+2)):=HN1;have HS1:Hid ((o++((ByteArray.mk #[60])++(ByteArray.mk #[68])++pc++(ByteArray.mk #[62]))).size≤3*(k+2)):=hs1;clear HN1 hs1 HSO'
        go_wp2_with fail
        refine(HS.out _).mono ?_;rintro e w' ⟨rfl,rfl⟩
        go_wp2_with fail
        refine(HCH.out _).mono ?_;rintro e w' ⟨rfl,rfl⟩
        go_wp2_with fail
        refine(HS.out _).mono ?_;rintro e w' ⟨rfl,rfl⟩;go_wp2
        go_round
        case rel=>exact⟨k+2,kk+1,j+1,q,_,by go_num,by go_num,rfl,T1.out,HN.out,HS1.out,by omega,by omega,HWR.out⟩
        case measure=>simp[intOf];omega
       ·obtain⟨HN1,hs1⟩:=HSO'.out ⟨#[69]⟩ rfl;have HN:Hid (LW (chF Z ln) s.data.toList (o++((ByteArray.mk #[60])++(ByteArray.mk #[69])++pc++(ByteArray.mk #[62]))).data.toList (kk+1) (k+2)):=HN1;have HS1:Hid ((o++((ByteArray.mk #[60])++(ByteArray.mk #[69])++pc++(ByteArray.mk #[62]))).size≤3*(k+2)):=hs1;clear HN1 hs1 HSO'
        go_wp2_with fail
        refine(HS.out _).mono ?_;rintro e w' ⟨rfl,rfl⟩
        go_wp2_with fail
        refine(HCH.out _).mono ?_;rintro e w' ⟨rfl,rfl⟩
        go_wp2_with fail
        refine(HS.out _).mono ?_;rintro e w' ⟨rfl,rfl⟩;go_wp2
        go_round
        case rel=>exact⟨k+2,kk+1,j+1,q,_,by go_num,by go_num,rfl,T1.out,HN.out,HS1.out,by omega,by omega,HWR.out⟩
        case measure=>simp[intOf];omega
     ·have HN:Hid (LW (chF Z ln) s.data.toList (o++pc).data.toList (kk+1) (k+2)):=HNO.out (by rw[chF,if_neg (fun h=>hkl h.1)])
      go_wp2_with fail
      refine(HS.out _).mono ?_;rintro e w' ⟨rfl,rfl⟩
      go_wp2_with fail
      refine(HS.out _).mono ?_;rintro e w' ⟨rfl,rfl⟩;go_wp2
      go_round
      case rel=>exact⟨k+2,kk+1,j+1,q,o++pc,by go_num,by go_num,rfl,T1.out,HN.out,hos2,by omega,by omega,HWR.out⟩
      case measure=>simp[intOf];omega
    ·have b1:((s[k].toNat:Int)==103)=false:=u8g hg;have b2:((s[k].toNat:Int)==112)=true:=by
      rcases hgp with h'|h'
      ·exact absurd h' hg
      ·rw[h'];rfl
     clear hg hgp
     by_cases hkl:kk<ln
     ·obtain⟨b,off,hla,hcell,r1,r2⟩:=HZ.out kk hkl;have hcell':wr.cell? ⟨b,off+kk,none⟩=some (.int .i64 (Z kk)):=by rw[HWR.out];exact hcell
      obtain⟨m,hm⟩:∃m,m=choN (Z kk):=⟨_,rfl⟩;have HCH:Hid (∀wx,Calls Tryz.prog 80 #[.int .i64 (Z kk)] wx fun e w'=>e=.returned (.int .i64 m)∧w'=wx):=by
       intro wx;rw[hm];exact choice_any (Z kk) wx r1 r2
      have hm6:m<6:=by rw[hm];exact choN_lt _
      have HM:Hid (m=choN (Z kk)):=hm;clear hm hcell;subst hla
      by_cases hm0:m=0
      ·have HN:Hid (LW (chF Z ln) s.data.toList (o++pc).data.toList (kk+1) (k+2)):=HNO.out (by rw[chF,if_neg (by rw[←HM.out,hm0];simp)]);subst hm0
       go_wp2_with fail
       refine(HS.out _).mono ?_;rintro e w' ⟨rfl,rfl⟩
       go_wp2_with fail
       refine(HCH.out _).mono ?_;rintro e w' ⟨rfl,rfl⟩
       go_wp2_with fail
       refine(HS.out _).mono ?_;rintro e w' ⟨rfl,rfl⟩;go_wp2
       go_round
       case rel=>exact⟨k+2,kk+1,j+1,q,o++pc,by go_num,by go_num,rfl,T1.out,HN.out,hos2,by omega,by omega,HWR.out⟩
       case measure=>simp[intOf];omega
      ·have HSO':Hid (∀e:ByteArray,e.data.toList=[UInt8.ofNat (64+m)]→LW (chF Z ln) s.data.toList (o++((ByteArray.mk #[60])++e++pc++(ByteArray.mk #[62]))).data.toList (kk+1) (k+2)∧(o++((ByteArray.mk #[60])++e++pc++(ByteArray.mk #[62]))).size≤3*(k+2)):=by
        intro e he;have es:e.size=1:=by rw[←len_eq,he];rfl
        refine⟨?_,?_⟩
        ·have:=HSO.out (UInt8.ofNat (64+m)) (by rw[chF,if_pos ⟨hkl,by rw[←HM.out];omega⟩,←HM.out]);rw[cat_data,cat_data,cat_data,cat_data,he];exact this
        ·rw[ByteArray.size_append,ByteArray.size_append,ByteArray.size_append,ByteArray.size_append,es];have e1:(ByteArray.mk #[60]).size=1:=rfl;have e2:(ByteArray.mk #[62]).size=1:=rfl;omega
       clear HNO HSO;have hmc:m=1∨m=2∨m=3∨m=4∨m=5:=by omega
       clear hm6 hm0 HM;rcases hmc with rfl|rfl|rfl|rfl|rfl
       ·obtain⟨HN1,hs1⟩:=HSO'.out ⟨#[65]⟩ rfl;have HN:Hid (LW (chF Z ln) s.data.toList (o++((ByteArray.mk #[60])++(ByteArray.mk #[65])++pc++(ByteArray.mk #[62]))).data.toList (kk+1) (k+2)):=HN1;have HS1:Hid ((o++((ByteArray.mk #[60])++(ByteArray.mk #[65])++pc++(ByteArray.mk #[62]))).size≤3*(k+2)):=hs1;clear HN1 hs1 HSO'
        go_wp2_with fail
        refine(HS.out _).mono ?_;rintro e w' ⟨rfl,rfl⟩
        go_wp2_with fail
        refine(HCH.out _).mono ?_;rintro e w' ⟨rfl,rfl⟩
        go_wp2_with fail
        refine(HS.out _).mono ?_;rintro e w' ⟨rfl,rfl⟩;go_wp2
        go_round
        case rel=>exact⟨k+2,kk+1,j+1,q,_,by go_num,by go_num,rfl,T1.out,HN.out,HS1.out,by omega,by omega,HWR.out⟩
        case measure=>simp[intOf];omega
       ·obtain⟨HN1,hs1⟩:=HSO'.out ⟨#[66]⟩ rfl;have HN:Hid (LW (chF Z ln) s.data.toList (o++((ByteArray.mk #[60])++(ByteArray.mk #[66])++pc++(ByteArray.mk #[62]))).data.toList (kk+1) (k+2)):=HN1;have HS1:Hid ((o++((ByteArray.mk #[60])++(ByteArray.mk #[66])++pc++(ByteArray.mk #[62]))).size≤3*(k+2)):=hs1;clear HN1 hs1 HSO'
        go_wp2_with fail
        refine(HS.out _).mono ?_;rintro e w' ⟨rfl,rfl⟩
        go_wp2_with fail
        refine(HCH.out _).mono ?_;rintro e w' ⟨rfl,rfl⟩
        go_wp2_with fail
        refine(HS.out _).mono ?_;rintro e w' ⟨rfl,rfl⟩;go_wp2
        go_round
        case rel=>exact⟨k+2,kk+1,j+1,q,_,by go_num,by go_num,rfl,T1.out,HN.out,HS1.out,by omega,by omega,HWR.out⟩
        case measure=>simp[intOf];omega
       ·obtain⟨HN1,hs1⟩:=HSO'.out ⟨#[67]⟩ rfl;have HN:Hid (LW (chF Z ln) s.data.toList (o++((ByteArray.mk #[60])++(ByteArray.mk #[67])++pc++(ByteArray.mk #[62]))).data.toList (kk+1) (k+2)):=HN1;have HS1:Hid ((o++((ByteArray.mk #[60])++(ByteArray.mk #[67])++pc++(ByteArray.mk #[62]))).size≤3*(k+2)):=hs1;clear HN1 hs1 HSO'
        go_wp2_with fail
        refine(HS.out _).mono ?_;rintro e w' ⟨rfl,rfl⟩
        go_wp2_with fail
        refine(HCH.out _).mono ?_;rintro e w' ⟨rfl,rfl⟩
        go_wp2_with fail
        refine(HS.out _).mono ?_;rintro e w' ⟨rfl,rfl⟩;go_wp2
        go_round
        case rel=>exact⟨k+2,kk+1,j+1,q,_,by go_num,by go_num,rfl,T1.out,HN.out,HS1.out,by omega,by omega,HWR.out⟩
        case measure=>simp[intOf];omega
       ·obtain⟨HN1,hs1⟩:=HSO'.out ⟨#[68]⟩ rfl;have HN:Hid (LW (chF Z ln) s.data.toList (o++((ByteArray.mk #[60])++(ByteArray.mk #[68])++pc++(ByteArray.mk #[62]))).data.toList (kk+1) (k+2)):=HN1;have HS1:Hid ((o++((ByteArray.mk #[60])++(ByteArray.mk #[68])++pc++(ByteArray.mk #[62]))).size≤3*(k+2)):=hs1;clear HN1 hs1 HSO'
        go_wp2_with fail
        refine(HS.out _).mono ?_;rintro e w' ⟨rfl,rfl⟩
        go_wp2_with fail
        refine(HCH.out _).mono ?_;rintro e w' ⟨rfl,rfl⟩
        go_wp2_with fail
        refine(HS.out _).mono ?_;rintro e w' ⟨rfl,rfl⟩;go_wp2
        go_round
        case rel=>exact⟨k+2,kk+1,j+1,q,_,by go_num,by go_num,rfl,T1.out,HN.out,HS1.out,by omega,by omega,HWR.out⟩
        case measure=>simp[intOf];omega
       ·obtain⟨HN1,hs1⟩:=HSO'.out ⟨#[69]⟩ rfl;have HN:Hid (LW (chF Z ln) s.data.toList (o++((ByteArray.mk #[60])++(ByteArray.mk #[69])++pc++(ByteArray.mk #[62]))).data.toList (kk+1) (k+2)):=HN1;have HS1:Hid ((o++((ByteArray.mk #[60])++(ByteArray.mk #[69])++pc++(ByteArray.mk #[62]))).size≤3*(k+2)):=hs1;clear HN1 hs1 HSO'
        go_wp2_with fail
        refine(HS.out _).mono ?_;rintro e w' ⟨rfl,rfl⟩
        go_wp2_with fail
        refine(HCH.out _).mono ?_;rintro e w' ⟨rfl,rfl⟩
        go_wp2_with fail
        refine(HS.out _).mono ?_;rintro e w' ⟨rfl,rfl⟩;go_wp2
        go_round
        case rel=>exact⟨k+2,kk+1,j+1,q,_,by go_num,by go_num,rfl,T1.out,HN.out,HS1.out,by omega,by omega,HWR.out⟩
        case measure=>simp[intOf];omega
     ·have HN:Hid (LW (chF Z ln) s.data.toList (o++pc).data.toList (kk+1) (k+2)):=HNO.out (by rw[chF,if_neg (fun h=>hkl h.1)])
      go_wp2_with fail
      refine(HS.out _).mono ?_;rintro e w' ⟨rfl,rfl⟩
      go_wp2_with fail
      refine(HS.out _).mono ?_;rintro e w' ⟨rfl,rfl⟩;go_wp2
      go_round
      case rel=>exact⟨k+2,kk+1,j+1,q,o++pc,by go_num,by go_num,rfl,T1.out,HN.out,hos2,by omega,by omega,HWR.out⟩
      case measure=>simp[intOf];omega
   ·have b1:((s[k].toNat:Int)==103)=false:=u8g (fun e=>hgp (.inl e));have b2:((s[k].toNat:Int)==112)=false:=u8g (fun e=>hgp (.inr e));have HN:Hid (LW (chF Z ln) s.data.toList (o++pc).data.toList kk (k+z)):=by
     show LW _ _ _ _ _;rw[cat_data,HPC.out,HZZ.out];exact HLW.out.one HC.out HRM.out hgp
    have hos2:(o++pc).size≤3*(k+z):=by rw[ByteArray.size_append];omega
    clear hgp
    go_wp2_with fail
    refine(HS.out _).mono ?_;rintro e w' ⟨rfl,rfl⟩
    go_wp2_with fail
    refine(HS.out _).mono ?_;rintro e w' ⟨rfl,rfl⟩;go_wp2
    go_round
    case rel=>exact⟨k+z,kk,j+1,q,o++pc,by go_num,rfl,rfl,T1.out,HN.out,hos2,by omega,by omega,HWR.out⟩
    case measure=>simp[intOf];omega
  ·have HF:Hid (o=g):=by
    show o=g;apply ByteArray.ext;apply Array.toList_inj.1;have:=HLW.out;unfold LW at this;rw[List.drop_eq_nil_of_le (by rw[len_eq];omega),show lay (chF Z ln) kk []=[] by simp[lay],List.append_nil]at this;rw[HG.out,this]
   go_wp2;go_ret;rw[HF.out];exact⟨rfl,q,HWR.out⟩
def MendsP(s:ByteArray):Prop:=∃b mks,ChkIs s 0 b∧Acc s.data.toList mks∧prL (accL mks) (accL mks).length=[]∧FairT (TKp s.data.toList)
theorem chk_td{s:ByteArray}{b:Int}(h:ChkIs s 0 b):∀a∈splitBar s.data.toList,TD [] [] a:=by
 obtain⟨hs,mks,ha,hn⟩:=chk_ok h;exact(acc_threads ha (by rw[len_eq];exact hs) hn).2
set_option maxHeartbeats 800000 in
set_option maxRecDepth 100000 in
theorem refMends_any(s:ByteArray)(w:World)(hs:s.size≤maxLen)(r:Bool)(hr:r=true↔MendsP s) :
  Calls Tryz.prog 58 #[.string s] w fun e w'=>e=.returned (.bool r)∧Below w.heap.size w w':=by
 have HR:Hid (r=true↔MendsP s):=hr;clear hr
 go_enter Tryz.func58,Tryz.ntmps58
 go_wp2_with fail
 refine(refPairs_any s w hs).mono ?_;rintro e w1 ⟨v,a,rfl,⟨b,hc,hp⟩,hb1⟩;have HB1:Hid (Below w.heap.size w w1):=hb1;clear hb1;rcases hp with⟨ha,rfl⟩|⟨rfl,h240,mks,x,c,hacc,hml,rfl,hown⟩
 ·have HF:Hid (r=false):=by
   cases hr:r with
   | false=>rfl
   | true=>
    obtain⟨b',mks,hc',_⟩:=HR.out.1 hr;exact absurd (hc.unique hc').1 ha
  have ba:(a != 0)=true:=by simpa using ha
  clear hc ha;go_wp2;go_ret;rw[HF.out];exact⟨rfl,HB1.out⟩
 ·have HP:Hid (r=true↔prL (accL mks) (accL mks).length=[]∧FairT (TKp s.data.toList)):=by
   show r=true↔_;rw[HR.out];constructor
   ·rintro⟨b',mks',_,ha',h1,h2⟩;rw[acc_unique hacc ha'];exact⟨h1,h2⟩
   ·rintro⟨h1,h2⟩;exact⟨b,mks,hc,hacc,h1,h2⟩
  have HFA:Hid ((∀x∈tks [] s.data.toList,FP (prs (ordL mks 5)) x)↔FairT (TKp s.data.toList)):=fairT_iff hacc (chk_td hc);have HA:Hid (Acc s.data.toList mks):=hacc;obtain⟨n,hn⟩:∃n,n=(prL (accL mks) (accL mks).length).length:=⟨_,rfl⟩;have HN:Hid (n=(prL (accL mks) (accL mks).length).length):=hn;rw[←hn];have hnl:n≤100000000:=by
   rw[hn];have h1:=accL_len mks;have:=prL_len (accL mks) (accL mks).length (by omega);omega
  clear hn hown hc hacc
  by_cases h0:n=0
  ·have HRF:Hid (r=true↔∀x∈tks [] s.data.toList,FP (prs (ordL mks 5)) x):=by
    show r=true↔_;rw[HP.out,HFA.out];refine⟨fun h=>h.2,fun h=>⟨List.length_eq_zero_iff.1 (by rw[←HN.out];exact h0),h⟩⟩
   subst h0
   go_wp2_with fail
   refine(reffair_any s mks _ h240 HA.out r HRF.out).mono ?_;rintro e w' ⟨rfl,q,rfl⟩;go_wp2;go_ret;exact⟨rfl,HB1.out.trans (below_drewN' _ _ _)⟩
  ·have HF:Hid (r=false):=by
    cases hr:r with
    | false=>rfl
    | true=>
     have:=(HP.out.1 hr).1;rw[HN.out,this]at h0;exact absurd rfl h0
   have hd:decide ((n:Int)>0)=true:=by simp;omega
   have hd':decide (0<n)=true:=by simp;omega
   go_wp2;go_ret;rw[HF.out];exact⟨rfl,HB1.out⟩
inductive RepOk(s t:ByteArray)(a e:Int)(Z:Nat→Int)(ln:Nat):Prop
 | err (b:Int):ChkIs s e b→e≠0→a=0→t=⟨#[]⟩→RepOk s t a e Z ln
 | mend (b:Int):ChkIs s 0 b→0<costL s.data.toList→e=5→a=0→t=⟨#[]⟩→RepOk s t a e Z ln
 | many (b:Int) (mks:List MK):ChkIs s 0 b→Acc s.data.toList mks→costL s.data.toList=0→10<(accL mks).length∨200<s.size→e=6→a=0→t=⟨#[]⟩→RepOk s t a e Z ln
 | clean (b:Int) (mks:List MK):ChkIs s 0 b→Acc s.data.toList mks→costL s.data.toList=0→(accL mks).length≤10→s.size≤200→prL (accL mks) (accL mks).length=[]→e=0→a=1→t=s→RepOk s t a e Z ln
 | fixed (b:Int) (mks:List MK):ChkIs s 0 b→Acc s.data.toList mks→costL s.data.toList=0→(accL mks).length≤10→s.size≤200→prL (accL mks) (accL mks).length≠[]→e=0→a=2 →
   (∀wx,Calls Tryz.prog 11 #[.string t] wx fun e w'=>e=.returned (.tuple #[.string s,.int .i64 0])∧w'=wx)→MendsP t →
   (∀r:ByteArray,r.data.toList=lay (chF Z ln) 0 s.data.toList→MendsP r→costL t.data.toList≤costL r.data.toList)→RepOk s t a e Z ln
theorem refPairs_of(s:ByteArray)(w:World)(hs:s.size≤maxLen)(c b:Int)(h:ChkIs s c b) :
  Calls Tryz.prog 29 #[.string s] w fun e w'=>∃x n cc,e=.returned (.tuple #[.slice x n cc,.int .i64 c])∧n≤100000000∧(∀mks,c=0→Acc s.data.toList mks→n=(prL (accL mks) (accL mks).length).length)∧Below w.heap.size w w':=by
 refine(refPairs_any s w hs).mono ?_;rintro e w1 ⟨v,a,rfl,⟨b',hc,hp⟩,hb1⟩;obtain⟨rfl,rfl⟩:=h.unique hc;rcases hp with⟨ha,rfl⟩|⟨rfl,h240,mks,x,cc,hacc,hml,rfl,hown⟩
 ·exact⟨none,0,0,rfl,by omega,fun _ h=>absurd h ha,hb1⟩
 ·refine⟨x,_,cc,rfl,?_,?_,hb1⟩
  ·have h1:=accL_len mks;have:=prL_len (accL mks) (accL mks).length (by omega);omega
  ·intro m _ hm;rw[acc_unique hm hacc]
set_option maxHeartbeats 1600000 in
set_option maxRecDepth 100000 in
theorem refRepaired_err(s t:ByteArray)(a e:Int)(w:World)(rv:Value)(hs:s.size≤maxLen)(b:Int)(hc:ChkIs s e b)(he:e≠0)(ha:a=0)(ht:t=⟨#[]⟩) :
  Calls Tryz.prog 38 #[.string s,.int .i64 a,.string t,.int .i64 e,rv] w fun e w'=>e=.returned (.bool true)∧Below w.heap.size w w':=by
 subst ha ht;have HC:Hid (ChkIs s e b):=hc;have be:(e==0)=false:=by simpa using he
 have bn:(e != 0)=true:=by simpa using he
 clear hc he
 go_enter Tryz.func38,Tryz.ntmps38
 go_wp2_with fail
 refine(refPairs_of s w hs e b HC.out).mono ?_;rintro _ w1 ⟨x,n,cc,rfl,hn,_,hb1⟩;have HB1:Hid (Below w.heap.size w w1):=hb1;clear hb1;go_wp2;go_ret;exact⟨rfl,HB1.out⟩
set_option maxHeartbeats 1600000 in
set_option maxRecDepth 100000 in
theorem refRepaired_mend(s t:ByteArray)(a e:Int)(w:World)(rv:Value)(hs:s.size≤maxLen)(b:Int)(hc:ChkIs s 0 b)(hm:0<costL s.data.toList)(he:e=5)(ha:a=0)(ht:t=⟨#[]⟩) :
  Calls Tryz.prog 38 #[.string s,.int .i64 a,.string t,.int .i64 e,rv] w fun e w'=>e=.returned (.bool true)∧Below w.heap.size w w':=by
 subst ha ht he;have HC:Hid (ChkIs s 0 b):=hc;obtain⟨m,hmm⟩:∃m,m=costL s.data.toList:=⟨_,rfl⟩;have HCO:Hid (∀wx,Calls Tryz.prog 57 #[.string s] wx fun e w'=>e=.returned (.int .i64 m)∧w'=wx):=by
  intro wx;rw[hmm];exact refcost_any s wx hs
 rw[←hmm]at hm;clear hc hmm
 go_enter Tryz.func38,Tryz.ntmps38
 go_wp2_with fail
 refine(refPairs_of s w hs 0 b HC.out).mono ?_;rintro _ w1 ⟨x,n,cc,rfl,hn,_,hb1⟩;have HB1:Hid (Below w.heap.size w w1):=hb1;clear hb1
 go_wp2_with fail
 refine(HCO.out _).mono ?_;rintro _ w' ⟨rfl,rfl⟩;have hd':decide (0<m)=true:=by simp;omega
 go_wp2;go_ret;exact⟨rfl,HB1.out⟩
set_option maxHeartbeats 1600000 in
set_option maxRecDepth 100000 in
theorem refRepaired_many(s t:ByteArray)(a e:Int)(w:World)(rv:Value)(hs:s.size≤maxLen)(b:Int)(mks:List MK)(hc:ChkIs s 0 b)(hacc:Acc s.data.toList mks)(hm:costL s.data.toList=0)(hmany:10<(accL mks).length∨200<s.size)(he:e=6)(ha:a=0)(ht:t=⟨#[]⟩) :
  Calls Tryz.prog 38 #[.string s,.int .i64 a,.string t,.int .i64 e,rv] w fun e w'=>e=.returned (.bool true)∧Below w.heap.size w w':=by
 subst ha ht he;have h240:s.size≤240:=(chk_ok hc).1;have hcnt:=acc_count hacc;rw[len_eq]at hcnt;have HC:Hid (ChkIs s 0 b):=hc;have HA:Hid (Acc s.data.toList mks):=hacc;have HCO:Hid (∀wx,Calls Tryz.prog 57 #[.string s] wx fun e w'=>e=.returned (.int .i64 0)∧w'=wx):=by
  intro wx;have:=refcost_any s wx hs;rw[hm]at this;exact this
 obtain⟨k,hk⟩:∃k,k=(accL mks).length:=⟨_,rfl⟩;have hk1:k≤1000:=by have:=accL_len mks;rw[hk];omega
 have HK:Hid (k=(accL mks).length):=hk;rw[←hk]at hmany;clear hc hm hacc hcnt hk
 go_enter Tryz.func38,Tryz.ntmps38
 go_wp2_with fail
 refine(refPairs_of s w hs 0 b HC.out).mono ?_;rintro _ w1 ⟨x,n,cc,rfl,hn,_,hb1⟩;have HB1:Hid (Below w.heap.size w w1):=hb1;clear hb1
 go_wp2_with fail
 refine(HCO.out _).mono ?_;rintro _ w' ⟨rfl,rfl⟩
 go_wp2_with fail
 refine(list_any s mks _ h240 HA.out).mono ?_;rintro _ w2 ⟨⟨y,cy,rfl,_⟩,hb2⟩;rw[←HK.out];have HB2:Hid (Below w.heap.size w w2):=HB1.out.trans (hb2.mono HB1.out.size);clear hb2
 by_cases h10:10<k
 ·have hd:decide (10<k)=true:=by simp;omega
  clear hmany;go_wp2;go_ret;exact⟨rfl,HB2.out⟩
 ·have h200:200<s.size:=by omega
  have hd:decide (10<k)=false:=by simp;omega
  have hd2:decide (200<s.size)=true:=by simp;omega
  clear hmany;go_wp2;go_ret;exact⟨rfl,HB2.out⟩
set_option maxHeartbeats 1600000 in
set_option maxRecDepth 100000 in
theorem refRepaired_clean(s t:ByteArray)(a e:Int)(w:World)(rv:Value)(hs:s.size≤maxLen)(b:Int)(mks:List MK)(hc:ChkIs s 0 b)(hacc:Acc s.data.toList mks)(hm:costL s.data.toList=0)(h10:(accL mks).length≤10)(h200:s.size≤200)(hp:prL (accL mks) (accL mks).length=[])(he:e=0)(ha:a=1)(ht:t=s) :
  Calls Tryz.prog 38 #[.string s,.int .i64 a,.string t,.int .i64 e,rv] w fun e w'=>e=.returned (.bool true)∧Below w.heap.size w w':=by
 subst ha ht he;have h240:t.size≤240:=(chk_ok hc).1;have HC:Hid (ChkIs t 0 b):=hc;have HA:Hid (Acc t.data.toList mks):=hacc;have HCO:Hid (∀wx,Calls Tryz.prog 57 #[.string t] wx fun e w'=>e=.returned (.int .i64 0)∧w'=wx):=by
  intro wx;have:=refcost_any t wx hs;rw[hm]at this;exact this
 have HP:Hid (prL (accL mks) (accL mks).length=[]):=hp;obtain⟨k,hk⟩:∃k,k=(accL mks).length:=⟨_,rfl⟩;have HK:Hid (k=(accL mks).length):=hk;rw[←hk]at h10;clear hc hm hacc hk hp
 go_enter Tryz.func38,Tryz.ntmps38
 go_wp2_with fail
 refine(refPairs_of t w hs 0 b HC.out).mono ?_;rintro _ w1 ⟨x,n,cc,rfl,hn,hpn,hb1⟩;have hn0:n=0:=by rw[hpn mks rfl HA.out,HP.out];rfl
 have HB1:Hid (Below w.heap.size w w1):=hb1;clear hb1 hpn hn;subst hn0
 go_wp2_with fail
 refine(HCO.out _).mono ?_;rintro _ w' ⟨rfl,rfl⟩
 go_wp2_with fail
 refine(list_any t mks _ h240 HA.out).mono ?_;rintro _ w2 ⟨⟨y,cy,rfl,_⟩,hb2⟩;rw[←HK.out];have HB2:Hid (Below w.heap.size w w2):=HB1.out.trans (hb2.mono HB1.out.size);clear hb2;have hd:decide (10<k)=false:=by simp;omega
 have hd2:decide (200<t.size)=false:=by simp;omega
 go_wp2;go_ret;exact⟨rfl,HB2.out⟩
theorem lay_len(ch:Nat→Option UInt8)(k:Nat)(s:List UInt8):(lay ch k s).length≤3*s.length:=by
 fun_induction lay ch k s with
 | case1=>simp
 | case2=>simp
 | case3 k c v s h l hl ih=>simp only[List.length_cons];omega
 | case4 k c v s h hl ih=>simp only[List.length_cons];omega
 | case5 k c v s _ h ih=>simp only[List.length_cons];omega
 | case6 k c v s _ h ih=>simp only[List.length_cons]at ih ⊢;omega
set_option maxHeartbeats 3200000 in
set_option maxRecDepth 100000 in
theorem refRepaired_fixed(s t:ByteArray)(a e:Int)(w:World)(la:Option Addr)(ln lc:Nat)(Z:Nat→Int)(hl:ln≤maxLen)(hz:∀w',Below w.heap.size w w'→NumsAt w' la ln Z)(hs:s.size≤maxLen)(hts:t.size≤maxLen)(b:Int)(mks:List MK)(hc:ChkIs s 0 b)(hacc:Acc s.data.toList mks)(hm:costL s.data.toList=0)(h10:(accL mks).length≤10)(h200:s.size≤200)(hp:prL (accL mks) (accL mks).length≠[])(he:e=0)(ha:a=2)
  (hst:∀wx,Calls Tryz.prog 11 #[.string t] wx fun e w'=>e=.returned (.tuple #[.string s,.int .i64 0])∧w'=wx)(hmt:MendsP t)
  (hri:∀r:ByteArray,r.data.toList=lay (chF Z ln) 0 s.data.toList→MendsP r→costL t.data.toList≤costL r.data.toList) :
  Calls Tryz.prog 38 #[.string s,.int .i64 a,.string t,.int .i64 e,.slice la ln lc] w fun e w'=>e=.returned (.bool true)∧Below w.heap.size w w':=by
 subst ha he;have h240:s.size≤240:=(chk_ok hc).1;have HC:Hid (ChkIs s 0 b):=hc;have HA:Hid (Acc s.data.toList mks):=hacc;have HZ:Hid (∀w',Below w.heap.size w w'→NumsAt w' la ln Z):=hz;have HST:Hid (∀wx,Calls Tryz.prog 11 #[.string t] wx fun e w'=>e=.returned (.tuple #[.string s,.int .i64 0])∧w'=wx):=hst;have HMT:Hid (∀wx,Calls Tryz.prog 58 #[.string t] wx fun e w'=>e=.returned (.bool true)∧Below wx.heap.size wx w'):=fun wx=>refMends_any t wx hts true ⟨fun _=>hmt,fun _=>rfl⟩
 have HCO:Hid (∀wx,Calls Tryz.prog 57 #[.string s] wx fun e w'=>e=.returned (.int .i64 0)∧w'=wx):=by
  intro wx;have:=refcost_any s wx hs;rw[hm]at this;exact this
 obtain⟨r,hr⟩:∃r:ByteArray,r.data.toList=lay (chF Z ln) 0 s.data.toList:=⟨⟨(lay (chF Z ln) 0 s.data.toList).toArray⟩,rfl⟩;have hrs:r.size≤maxLen:=by
  have:=lay_len (chF Z ln) 0 s.data.toList;rw[←hr,len_eq,len_eq]at this;unfold maxLen;omega
 have HRI:Hid (MendsP r→costL t.data.toList≤costL r.data.toList):=hri r hr;have HLD:Hid (∀wx,Below w.heap.size w wx→Calls Tryz.prog 59 #[.string s,.slice la ln lc] wx fun e w'=>e=.returned (.string r)∧∃q,w'=wx.drewN q):=fun wx hb=>refLaid_any s mks wx la ln lc Z hl (HZ.out wx hb) h240 HA.out r hr
 obtain⟨m1,hm1⟩:∃m,m=costL t.data.toList:=⟨_,rfl⟩;obtain⟨m2,hm2⟩:∃m,m=costL r.data.toList:=⟨_,rfl⟩;have HC1:Hid (∀wx,Calls Tryz.prog 57 #[.string t] wx fun e w'=>e=.returned (.int .i64 m1)∧w'=wx):=by
  intro wx;rw[hm1];exact refcost_any t wx hts
 have HC2:Hid (∀wx,Calls Tryz.prog 57 #[.string r] wx fun e w'=>e=.returned (.int .i64 m2)∧w'=wx):=by
  intro wx;rw[hm2];exact refcost_any r wx hrs
 rw[←hm1,←hm2]at HRI;have HRS:Hid (r.size≤maxLen):=hrs;have HP:Hid (prL (accL mks) (accL mks).length≠[]):=hp;obtain⟨k,hk⟩:∃k,k=(accL mks).length:=⟨_,rfl⟩;have HK:Hid (k=(accL mks).length):=hk;rw[←hk]at h10;clear hc hm hacc hk hp hri hr hrs hm1 hm2 hmt hst hz
 go_enter Tryz.func38,Tryz.ntmps38
 go_wp2_with fail
 refine(refPairs_of s w hs 0 b HC.out).mono ?_;rintro _ w1 ⟨x,n,cc,rfl,hn,hpn,hb1⟩;have hn0:0<n:=by
  have:=hpn mks rfl HA.out;rcases Nat.eq_zero_or_pos n with h|h
  ·rw[h]at this;exact absurd (List.length_eq_zero_iff.1 this.symm) HP.out
  ·exact h
 have HB1:Hid (Below w.heap.size w w1):=hb1;clear hb1 hpn
 go_wp2_with fail
 refine(HCO.out _).mono ?_;rintro _ w' ⟨rfl,rfl⟩
 go_wp2_with fail
 refine(list_any s mks _ h240 HA.out).mono ?_;rintro _ w2 ⟨⟨y,cy,rfl,_⟩,hb2⟩;rw[←HK.out];have HB2:Hid (Below w.heap.size w w2):=HB1.out.trans (hb2.mono HB1.out.size);clear hb2;have hd:decide (10<k)=false:=by simp;omega
 have hd2:decide (200<s.size)=false:=by simp;omega
 have hd3:((n:Int)==0)=false:=by simp;omega
 go_wp2_with fail
 refine(HST.out _).mono ?_;rintro _ w' ⟨rfl,rfl⟩
 go_wp2_with fail
 refine(HMT.out _).mono ?_;rintro _ w3 ⟨rfl,hb3⟩;have HB3:Hid (Below w.heap.size w w3):=HB2.out.trans (hb3.mono HB2.out.size);clear hb3
 go_wp2_with fail
 refine(HLD.out _ HB3.out).mono ?_;rintro _ w4 ⟨rfl,q,rfl⟩;have HB4:Hid (Below w.heap.size w (w3.drewN q)):=HB3.out.trans (below_drewN' _ _ _);obtain⟨w4,hw4⟩:∃w4,w4=w3.drewN q:=⟨_,rfl⟩;rw[←hw4]at HB4 ⊢;clear hw4
 by_cases hmr:MendsP r
 ·have hle:m1≤m2:=HRI.out hmr;have HMR:Hid (∀wx,Calls Tryz.prog 58 #[.string r] wx fun e w'=>e=.returned (.bool true)∧Below wx.heap.size wx w'):=fun wx=>refMends_any r wx HRS.out true ⟨fun _=>hmr,fun _=>rfl⟩
  clear hmr
  go_wp2_with fail
  refine(HMR.out _).mono ?_;rintro _ w5 ⟨rfl,hb5⟩;have HB5:Hid (Below w.heap.size w w5):=HB4.out.trans (hb5.mono HB4.out.size);clear hb5
  go_wp2_with fail
  refine(HC1.out _).mono ?_;rintro _ w' ⟨rfl,rfl⟩
  go_wp2_with fail
  refine(HC2.out _).mono ?_;rintro _ w' ⟨rfl,rfl⟩;have hd4:decide (m1≤m2)=true:=by simp;omega
  go_wp2;go_ret;exact⟨rfl,HB5.out⟩
 ·have HMR:Hid (∀wx,Calls Tryz.prog 58 #[.string r] wx fun e w'=>e=.returned (.bool false)∧Below wx.heap.size wx w'):=fun wx=>refMends_any r wx HRS.out false ⟨fun e=>Bool.noConfusion e,fun e=>absurd e hmr⟩
  clear hmr
  go_wp2_with fail
  refine(HMR.out _).mono ?_;rintro _ w5 ⟨rfl,hb5⟩;have HB5:Hid (Below w.heap.size w w5):=HB4.out.trans (hb5.mono HB4.out.size);clear hb5;go_wp2;go_ret;exact⟨rfl,HB5.out⟩
theorem refRepaired_ok(s t:ByteArray)(a e:Int)(w:World)(la:Option Addr)(ln lc:Nat)(Z:Nat→Int)(hl:ln≤maxLen)(hz:∀w',Below w.heap.size w w'→NumsAt w' la ln Z)(hs:s.size≤maxLen)(hts:t.size≤maxLen)(h:RepOk s t a e Z ln) :
  Calls Tryz.prog 38 #[.string s,.int .i64 a,.string t,.int .i64 e,.slice la ln lc] w fun e w'=>e=.returned (.bool true)∧Below w.heap.size w w':=by
 rcases h with⟨b,h1,h2,h3,h4⟩|⟨b,h1,h2,h3,h4,h5⟩|⟨b,mks,h1,h2,h3,h4,h5,h6,h7⟩|⟨b,mks,h1,h2,h3,h4,h5,h6,h7,h8,h9⟩|⟨b,mks,h1,h2,h3,h4,h5,h6,h7,h8,h9,h10,h11⟩
 ·exact refRepaired_err s t a e w _ hs b h1 h2 h3 h4
 ·exact refRepaired_mend s t a e w _ hs b h1 h2 h3 h4 h5
 ·exact refRepaired_many s t a e w _ hs b mks h1 h2 h3 h4 h5 h6 h7
 ·exact refRepaired_clean s t a e w _ hs b mks h1 h2 h3 h4 h5 h6 h7 h8 h9
 ·exact refRepaired_fixed s t a e w la ln lc Z hl hz hs hts b mks h1 h2 h3 h4 h5 h6 h7 h8 h9 h10 h11
open Go.ChangeShapes Go.WideShapes Go.ChangeAt Go.Deep Go.Joins
def NumsV(W:World)(v:Value):Prop:=∃a n c Z,v=.slice a n c∧n≤maxLen∧∀w',Below W.heap.size W w'→NumsAt w' a n Z
def IsScriptN(W:World)(a0:Option Addr)(len:Nat):Prop:=
 len=0∨∃b off K S P L,a0=some ⟨b,off,none⟩∧len≤maxLen∧Script W b off len K S P L∧∀j,j<len→NumsV W (L j)
theorem open_nums{H:Type}{enc:TypeId×Value→H}{W:World}{fuel:Nat}{a0:Option Addr}{len cap:Nat}{x:DataW H×List MemPlace}
  (hf:DataW.trod enc Tryz.prog W 0 (fun _=>true) true fuel 30 [.slice a0 len cap]=some x):len≤maxLen∧∃Z,∀w',Below W.heap.size W w'→NumsAt w' a0 len Z:=by
 rcases open_ints Tryz.underlying30 Tryz.underlying3 Tryz.cellsInt hf with⟨hcs,hx⟩|⟨a,len',cap',zs,hcs,_,hl,hm,hz,hx,hcell,hwz⟩
 ·simp at hcs;obtain⟨_,rfl,_⟩:=hcs;exact⟨Nat.zero_le _,fun _=>0,fun w' _ j hj=>absurd hj (Nat.not_lt_zero _)⟩
 ·simp only[List.cons.injEq,Value.slice.injEq,and_true]at hcs;obtain⟨rfl,rfl,rfl⟩:=hcs;refine⟨by omega,fun j=>zs.getD j 0,fun w' hb j hj=>?_⟩;simp only[if_true]at hz;obtain⟨b,off,spot⟩:=a;have hspot:spot=none:=by simpa[Addr.add]using World.cell?_spot (hcell 0 (by omega))
  subst hspot;have hlt:b<W.heap.size:=World.block_lt_of_cell? W _ (by simpa[Addr.add]using hcell 0 (by omega):W.cell? ⟨b,off,none⟩=some (.int .i64 (zs.getD 0 0)));have hw:(Lit.int .i64 (zs.getD j 0)).wf=true:=by
   apply hwz;have hjl:j<zs.length:=by omega
   simp[List.getD,List.getElem?_eq_getElem hjl]
  have h1:IntKind.i64.min=-9223372036854775808:=rfl;have h2:IntKind.i64.max=9223372036854775807:=rfl;simp only[Lit.wf,Bool.and_eq_true,decide_eq_true_eq]at hw;refine⟨b,off,rfl,?_,by show _≤zs.getD j 0;omega,by show zs.getD j 0≤_;omega⟩;rw[hb.cell (p:=⟨b,off+j,none⟩) hlt,←add_plain];exact hcell j (by omega)
set_option maxRecDepth 100000 in
theorem open_scriptN{H:Type}{enc:TypeId×Value→H}{W:World}{fuel:Nat}{a0:Option Addr}{len cap:Nat}{x:DataW H×List MemPlace}
  (hf:DataW.trod enc Tryz.prog W 0 (fun _=>true) true fuel 22 [.slice a0 len cap]=some x):IsScriptN W a0 len:=by
 rcases open_slice Tryz.underlying22 hf with⟨hcs,_⟩|⟨a,len',cap',m,n,D,Pl,hcs,_,hl,hm,hmm,_,hel⟩
 ·left;simp at hcs;exact hcs.2.1
 ·simp only[List.cons.injEq,Value.slice.injEq,and_true]at hcs;obtain⟨rfl,rfl,rfl⟩:=hcs
  by_cases h0:len=0
  ·exact .inl h0
  right;simp only[if_true]at hmm;subst hmm;obtain⟨b,off,spot⟩:=a;have hspot:spot=none:=by
   obtain⟨cs,h1,_⟩:=hel 0 (by omega);rw[Tryz.cellsOp]at h1;obtain⟨_,hlen,hcell⟩:=World.cells?_some h1
   match cs,hlen with
   | [c0,c1,c2,c3],_=>
    have q0:=hcell 0 (by decide);have hsp:=World.cell?_spot (w:=W) (v:=c0) (a:=((⟨b,off,spot⟩:Addr).add (0*4)).add 0) q0;simpa[Addr.add]using hsp
  subst hspot;have hel':∀i,i<len→∃(k:Int) (s p:ByteArray) (v:Value),W.cell? ⟨b,off+i*4,none⟩=some (.int .i64 k)∧W.cell? ⟨b,off+i*4+1,none⟩=some (.string s)∧W.cell? ⟨b,off+i*4+2,none⟩=some (.string p)∧W.cell? ⟨b,off+i*4+3,none⟩=some v ∧
    s.size≤maxLen∧p.size≤maxLen∧NumsV W v:=by
   intro i hi;obtain⟨cs,h1,h2⟩:=hel i (by omega);rw[Tryz.cellsOp]at h1;obtain⟨_,hlen,hcell⟩:=World.cells?_some h1
   match cs,hlen with
   | [c0,c1,c2,c3],_=>
    obtain⟨y0,y1,y2,y3,n',_,_,t0,t1,t2,t3⟩:=trod_struct4 Tryz.underlying32 h2;simp only[Tryz.cellsInt]at t0;simp only[Tryz.cellsStr]at t1 t2;simp only[Tryz.cellsInts]at t3;obtain⟨k,e0,_,_⟩:=DataW.trod_int Tryz.underlying3 t0;obtain⟨s,e1,_,hs⟩:=DataW.trod_string Tryz.underlying9 t1;obtain⟨p,e2,_,hp⟩:=DataW.trod_string Tryz.underlying9 t2;obtain⟨la,ln,lc,e3⟩:=slice_form Tryz.underlying30 t3;simp at e0 e1 e2 e3;subst e0 e1 e2 e3;have hnums:=open_nums t3;have q0:=hcell 0 (by decide);have q1:=hcell 1 (by decide);have q2:=hcell 2 (by decide);have q3:=hcell 3 (by decide);rw[add_plain,add_plain]at q0 q1 q2 q3;exact⟨k,s,p,_,q0,q1,q2,q3,hs,hp,la,ln,lc,hnums.2.choose,rfl,hnums.1,hnums.2.choose_spec⟩
  obtain⟨K,hK⟩:=choose_lt (fun i hi=>(hel' i hi));obtain⟨S,hS⟩:=choose_lt (α:=ByteArray) (fun i hi=>(hK i hi));obtain⟨P,hP⟩:=choose_lt (α:=ByteArray) (fun i hi=>(hS i hi));obtain⟨L,hL⟩:=choose_lt (α:=Value) (fun i hi=>(hP i hi));refine⟨b,off,K,S,P,L,rfl,by omega,?_,fun j hj=>(hL j hj).2.2.2.2.2.2⟩;exact⟨fun h=>World.block_lt_of_cell? W _ (hL 0 h).1,fun j hj=>(hL j hj).1,fun j hj=>(hL j hj).2.1,fun j hj=>(hL j hj).2.2.1,fun j hj=>(hL j hj).2.2.2.1,fun j hj=>(hL j hj).2.2.2.2.1,fun j hj=>(hL j hj).2.2.2.2.2.1,fun j hj=>by obtain⟨a,n,c,_,e,_⟩:=(hL j hj).2.2.2.2.2.2;exact⟨a,n,c,e⟩⟩
end Go.Proofs.YtdgkpkdinfklaabGreat
