import Derived.Test.YtdgkpkdinfklaabGreatGA
import Derived.Test.YtdgkpkdinfklaabGreatGE
import Derived.Laws.BytesArg
namespace Go.Proofs.YtdgkpkdinfklaabGreat
def plainE(e:UInt8):Bool:=e==66||e==109||e==93||e==125||e==123||e==62
def BF(f:List UInt8):Prop:=f.all plainE=true∨∃X,f=97::118::62::X∧X.all plainE=true
theorem bf_next{f f':List UInt8}{c:UInt8}(h:BF f)(hn:nxt f c=(f',true)) :
  (sizeU c=1∧BF f')∨(sizeU c=2∧∃e X,f'=e::X∧(e=118∨e=110∨e=108∨e=107)∧BF X):=by
 rcases h with h|⟨X,rfl,hX⟩
 ·induction f with
  | nil=>simp[nxt]at hn
  | cons e r ih=>
   simp only[List.all_cons,Bool.and_eq_true]at h;unfold nxt at hn
   split at hn
   ·rename_i he;subst he
    split at hn
    ·rename_i more hm;simp only[Prod.mk.injEq,and_true]at hn;subst hn;unfold opnL at hm
     split at hm
     ·rename_i hc;cases hm;right;refine⟨by rcases hc with rfl|rfl<;>rfl,118,66::r,rfl,.inl rfl,.inl (by simp[h.2,plainE])⟩
     split at hm
     ·rename_i hc;cases hm;subst hc;exact .inr ⟨rfl,110,66::r,rfl,.inr (.inl rfl),.inl (by simp[h.2,plainE])⟩
     split at hm
     ·rename_i hc;cases hm;subst hc;exact .inl ⟨rfl,.inl (by simp[h.2,plainE])⟩
     split at hm
     ·rename_i hc;cases hm;subst hc;exact .inr ⟨rfl,108,66::93::66::r,rfl,.inr (.inr (.inl rfl)),.inl (by simp[h.2,plainE])⟩
     split at hm
     ·rename_i hc;cases hm;subst hc;exact .inr ⟨rfl,107,97::118::62::66::r,rfl,.inr (.inr (.inr rfl)),.inr ⟨66::r,rfl,by simp[h.2,plainE]⟩⟩
     split at hm
     ·rename_i hc;cases hm;subst hc;exact .inl ⟨rfl,.inl (by simp[h.2,plainE])⟩
     split at hm
     ·rename_i hc;cases hm;subst hc;exact .inl ⟨rfl,.inl (by simp[h.2,plainE])⟩
     ·cases hm
    ·exact ih hn h.2
   ·split at hn
    ·simp only[Prod.mk.injEq,beq_iff_eq]at hn;obtain⟨rfl,rfl⟩:=hn;exact .inl ⟨rfl,.inl (by simp[h.2,plainE])⟩
    ·rename_i h66 h109;simp only[Prod.mk.injEq]at hn;obtain⟨rfl,hs⟩:=hn;have h1:=h.1;simp only[plainE,Bool.or_eq_true,beq_iff_eq]at h1;rcases h1 with((((h1|h1)|h1)|h1)|h1)|h1
     ·exact absurd h1 h66
     ·exact absurd h1 h109
     all_goals
      subst h1;simp[stB]at hs;subst hs;exact .inl ⟨rfl,.inl h.2⟩
 ·rw[nxt_e (by decide) (by decide)]at hn;simp only[Prod.mk.injEq]at hn;obtain⟨rfl,hs⟩:=hn;have hs':inU [103,112] c=true:=hs;simp[inU]at hs';right;refine⟨by rcases hs' with rfl|rfl<;>rfl,118,62::X,rfl,.inl rfl,.inl (by simp[hX,plainE])⟩
theorem st_second{e d:UInt8}(he:e=118∨e=110∨e=108∨e=107)(h:stB e d=true):d≠60∧d≠62:=by
 constructor
 all_goals
  intro hd;subst hd;rcases he with rfl|rfl|rfl|rfl<;>exact absurd h (by decide)
theorem acc_bf{p:List UInt8}{mks:List MK}(h:Acc p mks)(k:Nat):(tw p k).i≤p.length∧∃f,fw p (tw p k).i=some f∧BF f:=by
 obtain⟨g,hg,_⟩:=h.form
 induction k with
 | zero=>exact⟨Nat.zero_le _,[66,109,109,109],rfl,.inl rfl⟩
 | succ k ih=>
  obtain⟨hle,f,hf,hbf⟩:=ih;rw[tw]
  split
  ·rename_i hlt;have hc:=List.getElem?_eq_getElem hlt;obtain⟨room,_⟩:=acc_room h hlt hc;obtain⟨f1,hf1⟩:=fw_prefix hg (show(tw p k).i+1≤p.length by omega);have hn:nxt f p[(tw p k).i]=(f1,true):=by
    have hf1':=hf1;rw[fw,hf,hc]at hf1';simp only at hf1'
    split at hf1'
    ·rename_i h2;cases hf1';rw[←h2]
    ·cases hf1'
   have ei:(tstep p (tw p k)).i=(tw p k).i+sizeU p[(tw p k).i]:=by rw[tstep,hc]
   rw[ei];refine⟨room,?_⟩;rcases bf_next hbf hn with⟨hz,hb⟩|⟨hz,e,X,rfl,he,hb⟩
   ·rw[hz];exact⟨f1,hf1,hb⟩
   ·rw[hz]at room ⊢;obtain⟨f2,hf2⟩:=fw_prefix hg room;have hlt1:(tw p k).i+1<p.length:=by omega
    have hc1:=List.getElem?_eq_getElem hlt1;refine⟨X,?_,hb⟩;have h3:=hf2;rw[fw,hf1,hc1]at h3;simp only at h3;rw[nxt_e (by rcases he with rfl|rfl|rfl|rfl<;>decide) (by rcases he with rfl|rfl|rfl|rfl<;>decide)]at h3
    split at h3
    ·cases h3;exact hf2
    ·cases h3
  ·exact⟨hle,f,hf,hbf⟩
theorem acc_second{p:List UInt8}{mks:List MK}(h:Acc p mks){k:Nat}{c:UInt8}(hlt:(tw p k).i<p.length)(hc:p[(tw p k).i]?=some c)(hz:sizeU c=2):∃d,p[(tw p k).i+1]?=some d∧d≠60∧d≠62:=by
 obtain⟨g,hg,_⟩:=h.form;obtain⟨_,f,hf,hbf⟩:=acc_bf h k;obtain⟨room,_⟩:=acc_room h hlt hc;rw[hz]at room;obtain⟨f1,hf1⟩:=fw_prefix hg (show(tw p k).i+1≤p.length by omega);obtain⟨f2,hf2⟩:=fw_prefix hg room;have hn:nxt f c=(f1,true):=by
  have hf1':=hf1;rw[fw,hf,hc]at hf1';simp only at hf1'
  split at hf1'
  ·rename_i h2;cases hf1';rw[←h2]
  ·cases hf1'
 rcases bf_next hbf hn with⟨hz1,_⟩|⟨_,e,X,rfl,he,hb⟩
 ·omega
 ·have hlt1:(tw p k).i+1<p.length:=by omega
  have hc1:=List.getElem?_eq_getElem hlt1;refine⟨_,hc1,st_second he ?_⟩;have h3:=hf2;rw[fw,hf1,hc1]at h3;simp only at h3;rw[nxt_e (by rcases he with rfl|rfl|rfl|rfl<;>decide) (by rcases he with rfl|rfl|rfl|rfl<;>decide)]at h3
  split at h3
  ·assumption
  ·cases h3
def sb(p:List UInt8):Nat→Nat×List UInt8
 | 0=>(0,[])
 | n+1=>match p[(sb p n).1]? with
  | none=>sb p n
  | some c=>if c=60 then((sb p n).1+2,(sb p n).2)else if c=62 then((sb p n).1+1,(sb p n).2)else((sb p n).1+1,(sb p n).2++[c])
def tO(p:List UInt8):Nat→List UInt8
 | 0=>[]
 | k+1=>match p[(tw p k).i]? with
  | none=>tO p k
  | some c=>tO p k++(if c=60∨c=62 then []else(p.drop (tw p k).i).take (sizeU c))
theorem sb_step{p:List UInt8}{n i:Nat}{o:List UInt8}{c:UInt8}(h:sb p n=(i,o))(hc:p[i]?=some c):sb p (n+1)=if c=60 then(i+2,o)else if c=62 then(i+1,o)else(i+1,o++[c]):=by
 simp[sb,h,hc]
theorem sb_stay{p:List UInt8}{n:Nat}(h:p.length≤(sb p n).1)(j:Nat):sb p (n+j)=sb p n:=by
 induction j with
 | zero=>rfl
 | succ j ih=>
  rw[←Nat.add_assoc,sb,ih,List.getElem?_eq_none h]
theorem sb_final{p:List UInt8}{k j:Nat}(hk:p.length≤(sb p k).1)(hj:p.length≤(sb p j).1):sb p k=sb p j:=by
 rcases Nat.le_total k j with h|h
 ·obtain⟨d,rfl⟩:=Nat.exists_eq_add_of_le h;exact(sb_stay hk d).symm
 ·obtain⟨d,rfl⟩:=Nat.exists_eq_add_of_le h;exact sb_stay hj d
theorem strip_same{p:List UInt8}{mks:List MK}(h:Acc p mks)(k:Nat):∃n,sb p n=((tw p k).i,tO p k):=by
 induction k with
 | zero=>exact⟨0,rfl⟩
 | succ k ih=>
  obtain⟨n,hn⟩:=ih
  by_cases hlt:(tw p k).i<p.length
  ·have hc:=List.getElem?_eq_getElem hlt;obtain⟨c,hcc⟩:∃c,p[(tw p k).i]=c:=⟨_,rfl⟩;have hd1:p.drop (tw p k).i=c::p.drop ((tw p k).i+1):=by rw[←hcc];exact List.drop_eq_getElem_cons hlt
   rw[hcc]at hc;have ei:(tw p (k+1)).i=(tw p k).i+sizeU c:=by rw[tw,if_pos hlt,tstep,hc]
   have eo:tO p (k+1)=tO p k++(if c=60∨c=62 then []else(p.drop (tw p k).i).take (sizeU c)):=by rw[tO,hc]
   have s1:=sb_step hn hc;rw[ei,eo]
   by_cases h60:c=60
   ·subst h60;exact⟨n+1,by rw[s1];simp[sizeU,inU]⟩
   ·by_cases h62:c=62
    ·subst h62;exact⟨n+1,by rw[s1];simp[sizeU,inU]⟩
    ·rw[if_neg (by simp[h60,h62])];rw[if_neg h60,if_neg h62]at s1
     by_cases hz:sizeU c=2
     ·obtain⟨d,hd,hd6,hd7⟩:=acc_second h hlt hc hz;have s2:=sb_step s1 hd;rw[if_neg hd6,if_neg hd7]at s2;refine⟨n+1+1,?_⟩;rw[s2,hz,hd1];have hlt1:(tw p k).i+1<p.length:=(List.getElem?_eq_some_iff.1 hd).1;have hdd:p[(tw p k).i+1]=d:=by
       rw[List.getElem?_eq_getElem hlt1]at hd;simpa using hd
      rw[List.drop_eq_getElem_cons hlt1,hdd];simp
     ·have hz1:sizeU c=1:=by
       have:sizeU c=1∨sizeU c=2:=by unfold sizeU;split<;>simp
       omega
      refine⟨n+1,?_⟩;rw[s1,hz1,hd1];simp
  ·refine⟨n,?_⟩;rw[hn,tw,if_neg hlt,tO,List.getElem?_eq_none (by omega)]
open Go.RowKit
theorem Tryz.infoByte:(Tryz.prog.info? 5).map (fun i=>(i.zero,i.size,i.bytes))=some (some (.int .u8 0),1,1):=by kernel_rfl
theorem addr_at(g j:Nat):(⟨g,0,none⟩:Addr).add j=⟨g,j,none⟩:=by unfold Addr.add;split<;>simp_all
def byV(l:List UInt8):List Value:=l.map fun b=>.int .u8 (b.toNat:Int)
theorem sb_len(p:List UInt8)(n:Nat):(sb p n).2.length≤(sb p n).1:=by
 induction n with
 | zero=>exact Nat.le_refl _
 | succ n ih=>
  rw[sb]
  split
  ·exact ih
  ·split
   ·simp only;omega
   ·split
    ·simp only;omega
    ·simp only[List.length_append,List.length_cons,List.length_nil];omega
theorem sb_le(p:List UInt8)(n:Nat):(sb p n).1≤p.length+1:=by
 induction n with
 | zero=>exact Nat.zero_le _
 | succ n ih=>
  rw[sb]
  split
  ·exact ih
  ·rename_i c hc;have hlt:=(List.getElem?_eq_some_iff.1 hc).1
   split
   ·simp only;omega
   ·split
    ·simp only;omega
    ·simp only;omega
set_option maxHeartbeats 1600000 in
set_option maxRecDepth 100000 in
theorem stripped_any(s:ByteArray)(w:World)(h:s.size≤240) :
  Calls Tryz.prog 23 #[.string s] w fun e w'=>(∃n,s.size≤(sb s.data.toList n).1∧e=.returned (.string ⟨(sb s.data.toList n).2.toArray⟩))∧Below w.heap.size w w':=by
 obtain⟨i0,hi0,hz0,hz1,hz2⟩:=info_parts Tryz.infoByte
 go_enter Tryz.func23,Tryz.ntmps23
 go_wp2
 go_loopg [3,4] (s.size+1) (fun g v i wr=>∃(n k:Nat) (o:List UInt8),sb s.data.toList n=(k,o)∧i=.int .i64 k∧wr.ownsRow w.heap.size 5 1 v o.length (byV o)∧Below w.heap.size w wr∧s.size+1≤g+k)
 case atStart=>exact⟨0,0,[],rfl,rfl,World.ownsRow_nil _ _ _ _,Below.refl _ _,by omega⟩
 case round=>
  obtain⟨n,k,o,hsb,rfl,hown,hbe,hg⟩:=hrel;have hol:=sb_len s.data.toList n;have hkl:=sb_le s.data.toList n;rw[hsb]at hol hkl;rw[len_eq]at hkl;simp only at hol hkl;have HSB:Hid (sb s.data.toList n=(k,o)):=hsb;have HO:Hid (wr.ownsRow w.heap.size 5 1 u3 o.length (byV o)):=hown;clear hsb hown
  by_cases hlt:k<s.size
  ·have hst:=sb_step HSB.out (byteAt s k hlt)
   by_cases h60:s[k]=60
   ·have b60:((s[k].toNat:Int)==60)=true:=by rw[h60];rfl
    rw[if_pos h60]at hst;have HST:Hid (sb s.data.toList (n+1)=(k+2,o)):=hst;clear hst h60;go_wp2
    go_roundg (gk-2)
    case measure=>omega
    case rel=>exact⟨n+1,k+2,o,HST.out,by go_num,HO.out,hbe,by omega⟩
   ·have b60:((s[k].toNat:Int)==60)=false:=u8g h60;rw[if_neg h60]at hst;clear h60
    by_cases h62:s[k]=62
    ·have b62:((s[k].toNat:Int)==62)=true:=by rw[h62];rfl
     rw[if_pos h62]at hst;have HST:Hid (sb s.data.toList (n+1)=(k+1,o)):=hst;clear hst h62;go_wp2
     go_roundg (gk-1)
     case measure=>omega
     case rel=>exact⟨n+1,k+1,o,HST.out,by go_num,HO.out,hbe,by omega⟩
    ·have b62:((s[k].toNat:Int)==62)=false:=u8g h62;rw[if_neg h62]at hst;have HST:Hid (sb s.data.toList (n+1)=(k+1,o++[s[k]])):=hst;clear hst h62
     go_wp2_with (at_builtin;refine wpList_append_own _ rfl (.tmp 12) (.tmp 16) 91 rfl w.heap.size 5 i0 _ 1 1 Tryz.underlying91 hi0 hz0 hz1 hz2 rfl (by decide) u3 o.length (byV o) rfl (HO.out.alloc _) ⟨wr.heap.size,0,none⟩ 1 1 [.int .u8 (s[k].toNat:Int)] rfl rfl ?hnews ?h1 ?h63 ?hby ?hbase ?next)
     case hnews=>exact cell_one_new _ _ _
     case h1=>intro u hu;simp at hu;subst hu;rfl
     case h63=>unfold maxLen;omega
     case hby=>omega
     case hbase=>have:=hbe.size;simp;omega
     case next=>
      intro v' w1 hown1 hgrow _;have hbe1:Below w.heap.size w w1:=(hbe.alloc hbe.size _).grown hgrow (by have:=hbe.size;simp;omega) (fun q hq=>(HO.out.lt q hq).1);have HO1:Hid (w1.ownsRow w.heap.size 5 1 v' (o++[s[k]]).length (byV (o++[s[k]]))):=by
       have:byV (o++[s[k]])=byV o++[.int .u8 (s[k].toNat:Int)]:=by simp[byV]
       rw[this,List.length_append];exact hown1
      clear hown1 hgrow;go_wp2
      go_roundg (gk-1)
      case measure=>omega
      case rel=>exact⟨n+1,k+1,o++[s[k]],HST.out,by go_num,HO1.out,hbe1,by omega⟩
  ·have HFIN:Hid (∃n,s.size≤(sb s.data.toList n).1∧(sb s.data.toList n).2=o):=⟨n,by rw[HSB.out];simp only;omega,by rw[HSB.out]⟩;rcases HO.out.2 with⟨hv,hn0⟩|⟨gb,cap,cur,hv,_⟩
   ·have ho:o=[]:=List.eq_nil_of_length_eq_zero hn0;subst hv;subst ho;have hcv:=fun(wx:World)=>run_convert_bytes_nil (P:=Tryz.prog) wx 91 5 Tryz.underlying91 Tryz.underlying5 0 0 9 Tryz.underlying9
    obtain⟨m,hm1,hm2⟩:=HFIN.out;have HM1:Hid (s.size≤(sb s.data.toList m).1):=hm1;have HM2:Hid ((sb s.data.toList m).2=[]):=hm2;clear hm1 hm2;go_wp2;go_ret;exact⟨⟨m,HM1.out,by rw[HM2.out];rfl⟩,hbe⟩
   ·subst hv
    have hcv:=run_convert_bytes_back (P:=Tryz.prog) wr 91 9 5 ⟨gb,0,none⟩ cap o Tryz.underlying91 Tryz.underlying5 Tryz.underlying9 (fun j hj=>by
     rw[addr_at];have:=HO.out.cellAt j (by omega);rw[this]
     simp[byV,List.getElem?_eq_getElem hj])
    obtain⟨m,hm1,hm2⟩:=HFIN.out;have HM1:Hid (s.size≤(sb s.data.toList m).1):=hm1;have HM2:Hid ((sb s.data.toList m).2=o):=hm2;clear hm1 hm2;go_wp2;go_ret;exact⟨⟨m,HM1.out,by rw[HM2.out];rfl⟩,hbe⟩
theorem tO_len(p:List UInt8)(k:Nat):(tO p k).length≤(tw p k).i:=by
 induction k with
 | zero=>exact Nat.le_refl _
 | succ k ih=>
  by_cases hlt:(tw p k).i<p.length
  ·have hc:=List.getElem?_eq_getElem hlt;have ei:(tw p (k+1)).i=(tw p k).i+sizeU p[(tw p k).i]:=by rw[tw,if_pos hlt,tstep,hc]
   have eo:tO p (k+1)=tO p k++(if p[(tw p k).i]=60∨p[(tw p k).i]=62 then []else(p.drop (tw p k).i).take (sizeU p[(tw p k).i])):=by rw[tO,hc]
   rw[ei,eo,List.length_append]
   split
   ·simp;omega
   ·have:=List.length_take_le (sizeU p[(tw p k).i]) (p.drop (tw p k).i);omega
  ·have ei:tw p (k+1)=tw p k:=by rw[tw,if_neg hlt]
   rw[ei,tO,List.getElem?_eq_none (by omega)];exact ih
theorem mid_data(s:ByteArray)(k z:Nat):(s.extract k (k+z)).data.toList=(s.data.toList.drop k).take z:=by
 rw[Lib.extract_data,Nat.add_sub_cancel_left]
def StripOut(s:ByteArray)(e:Ending):Prop:=∃(j:Nat) (g:ByteArray),s.size≤(tw s.data.toList j).i∧e=.returned (.tuple #[.string g,.int .i64 0])∧g.data.toList=tO s.data.toList j
set_option maxHeartbeats 1600000 in
set_option maxRecDepth 100000 in
theorem refStrip_ok(s:ByteArray)(mks:List MK)(w:World)(h:s.size≤240)(ha:Acc s.data.toList mks)(hc:ChkIs s 0 0) :
  Calls Tryz.prog 11 #[.string s] w fun e w'=>StripOut s e∧w'=w:=by
 go_enter Tryz.func11,Tryz.ntmps11
 go_wp2_with fail
 refine(refCheck_any s w (by unfold maxLen;omega)).mono ?_;rintro e w1 ⟨a,b,rfl,hc',rfl⟩;obtain⟨rfl,rfl⟩:=hc.unique hc';have HA:Hid (Acc s.data.toList mks):=ha;clear hc hc' ha;go_wp2
 go_loop [6,7] (fun ov i=>∃(k j:Nat) (o:ByteArray),i=.int .i64 k∧ov=.string o∧(tw s.data.toList j).i=k∧tO s.data.toList j=o.data.toList∧o.size≤k∧k≤s.size) (fun _ i=>s.size-(intOf i).toNat)
 case atStart=>exact⟨0,0,⟨#[]⟩,rfl,rfl,rfl,rfl,by decide,Nat.zero_le _⟩
 case round=>
  obtain⟨k,j,o,rfl,rfl,hki,hto,hos,hks⟩:=hrel
  by_cases hlt:k<s.size
  ·have hlt':(tw s.data.toList j).i<s.data.toList.length:=by rw[hki,len_eq];exact hlt
   have hc:s.data.toList[(tw s.data.toList j).i]?=some s[k]:=by rw[hki];exact byteAt s k hlt
   obtain⟨t1,_⟩:=tw_at hlt' hc;obtain⟨room,_⟩:=acc_room HA.out hlt' hc;have t5:tO s.data.toList (j+1)=o.data.toList++(if s[k]=60∨s[k]=62 then []else(s.data.toList.drop k).take (sizeU s[k])):=by rw[tO,hc,hto,hki]
   have tl:=tO_len s.data.toList (j+1);rw[hki,len_eq]at room;rw[hki]at t1;rw[t1]at tl;obtain⟨z,hzz⟩:∃z,z=sizeU s[k]:=⟨_,rfl⟩;have hz1:=sizeU_pos s[k];rw[←hzz]at room hz1 t1 t5 tl;have HZ:Hid (z=sizeU s[k]):=hzz;have T1:Hid ((tw s.data.toList (j+1)).i=k+z):=t1;have T5:Hid (tO s.data.toList (j+1)=o.data.toList++(if s[k]=60∨s[k]=62 then []else(s.data.toList.drop k).take z)):=t5;have TL:Hid ((tO s.data.toList (j+1)).length≤k+z):=tl;have hz2:z≤2:=by rw[hzz];unfold sizeU;split<;>omega
   clear t1 t5 tl hzz hki hto hc hlt'
   by_cases h60:s[k]=60
   ·have b60:((s[k].toNat:Int) != 60)=false:=by rw[h60];rfl
    have HO:Hid (tO s.data.toList (j+1)=o.data.toList):=by have:=T5.out;rw[if_pos (.inl h60),List.append_nil]at this;exact this
    clear h60
    go_wp2_with fail
    refine(size_any s[k] _).mono ?_;rintro e w' ⟨rfl,rfl⟩;rw[←HZ.out]
    go_wp2_with fail
    refine(size_any s[k] _).mono ?_;rintro e w' ⟨rfl,rfl⟩;rw[←HZ.out];go_wp2
    go_round
    case rel=>exact⟨k+z,j+1,o,by go_num,rfl,T1.out,HO.out,by omega,by omega⟩
    case measure=>simp[intOf];omega
   ·have b60:((s[k].toNat:Int) != 60)=true:=by have:=u8g h60;simp only[bne];exact congrArg not this
    by_cases h62:s[k]=62
    ·have b62:((s[k].toNat:Int) != 62)=false:=by rw[h62];rfl
     have HO:Hid (tO s.data.toList (j+1)=o.data.toList):=by have:=T5.out;rw[if_pos (.inr h62),List.append_nil]at this;exact this
     clear h60 h62
     go_wp2_with fail
     refine(size_any s[k] _).mono ?_;rintro e w' ⟨rfl,rfl⟩;rw[←HZ.out]
     go_wp2_with fail
     refine(size_any s[k] _).mono ?_;rintro e w' ⟨rfl,rfl⟩;rw[←HZ.out];go_wp2
     go_round
     case rel=>exact⟨k+z,j+1,o,by go_num,rfl,T1.out,HO.out,by omega,by omega⟩
     case measure=>simp[intOf];omega
    ·have b62:((s[k].toNat:Int) != 62)=true:=by have:=u8g h62;simp only[bne];exact congrArg not this
     have HO:Hid (tO s.data.toList (j+1)=o.data.toList++(s.data.toList.drop k).take z):=by have:=T5.out;rw[if_neg (by simp[h60,h62])]at this;exact this
     clear h60 h62
     go_wp2_with fail
     refine(size_any s[k] _).mono ?_;rintro e w' ⟨rfl,rfl⟩;rw[←HZ.out]
     go_wp2_with fail
     refine(size_any s[k] _).mono ?_;rintro e w' ⟨rfl,rfl⟩;rw[←HZ.out];go_wp2
     go_round
     case rel=>
      have ho:(o++s.extract k (k+z)).data.toList=tO s.data.toList (j+1):=by rw[cat_data,mid_data,HO.out]
      refine⟨k+z,j+1,o++s.extract k (k+z),by go_num,rfl,T1.out,ho.symm,?_,by omega⟩;have:=TL.out;rw[←ho,len_eq]at this;exact this
     case measure=>simp[intOf];omega
  ·have HK:Hid ((tw s.data.toList j).i=k):=hki;have HO:Hid (tO s.data.toList j=o.data.toList):=hto;clear hki hto;go_wp2
   go_ret2
   exact⟨⟨j,o,by rw[HK.out];omega,rfl,HO.out.symm⟩,rfl⟩
set_option maxHeartbeats 400000 in
theorem refStrip_err(s:ByteArray)(a b:Int)(w:World)(hs:s.size≤maxLen)(hc:ChkIs s a b)(ha:a≠0) :
  Calls Tryz.prog 11 #[.string s] w fun e w'=>e=.returned (.tuple #[.string ⟨#[]⟩,.int .i64 a])∧w'=w:=by
 have ha':(a != 0)=true:=by simpa using ha
 go_enter Tryz.func11,Tryz.ntmps11
 go_wp2_with fail
 refine(refCheck_any s w hs).mono ?_;rintro e w1 ⟨a',b',rfl,hc',rfl⟩;obtain⟨rfl,rfl⟩:=hc.unique hc';clear hc hc' ha;go_wp2
 go_ret2
 exact⟨rfl,rfl⟩
def StripIs(s:ByteArray)(o:ByteArray)(a:Int):Prop:=∃b,ChkIs s a b∧((a≠0∧o=⟨#[]⟩)∨(a=0∧∃n,s.size≤(sb s.data.toList n).1∧o=⟨(sb s.data.toList n).2.toArray⟩))
theorem StripIs.unique{s o o':ByteArray}{a a':Int}(h:StripIs s o a)(h':StripIs s o' a'):o=o'∧a=a':=by
 obtain⟨b,hc,h⟩:=h;obtain⟨b',hc',h'⟩:=h';obtain⟨rfl,rfl⟩:=hc.unique hc';refine⟨?_,rfl⟩;rcases h with⟨h0,rfl⟩|⟨h0,n,hn,rfl⟩
 ·rcases h' with⟨_,rfl⟩|⟨h1,_⟩
  ·rfl
  ·exact absurd h1 h0
 ·rcases h' with⟨h1,_⟩|⟨_,n',hn',rfl⟩
  ·exact absurd h0 h1
  ·rw[sb_final (p:=s.data.toList) (k:=n) (j:=n') (by rw[len_eq];exact hn) (by rw[len_eq];exact hn')]
theorem refStrip_any(s:ByteArray)(w:World)(hs:s.size≤maxLen) :
  Calls Tryz.prog 11 #[.string s] w fun e w'=>∃o a,e=.returned (.tuple #[.string o,.int .i64 a])∧StripIs s o a∧w'=w:=by
 obtain⟨a,b,hc⟩:=chk_total s
 by_cases ha:a=0
 ·subst ha;have hcc:=hc;rcases hc with⟨_,h1,_⟩|⟨hz,⟨q,_,h1,_⟩|⟨mks,hacc,h1,h2⟩⟩
  ·cases h1
  ·cases h1
  ·have hb:b=0:=by
    rw[h2];unfold nestOf at h1 ⊢
    split at h1
    ·rfl
    ·cases h1
   subst hb;refine(refStrip_ok s mks w hz hacc hcc).mono ?_;rintro e w' ⟨⟨j,g,hj,he,hg⟩,hw⟩;obtain⟨n,hn⟩:=strip_same hacc j;refine⟨g,0,he,⟨0,hcc,.inr ⟨rfl,n,by rw[hn];exact hj,?_⟩⟩,hw⟩;rw[hn];exact ByteArray.ext (Array.toList_inj.1 (by rw[hg]))
 ·refine(refStrip_err s a b w hs hc ha).mono ?_;rintro e w' ⟨he,hw⟩;exact⟨_,a,he,⟨b,hc,.inl ⟨ha,rfl⟩⟩,hw⟩
set_option maxHeartbeats 400000 in
theorem strip_any(s:ByteArray)(w:World)(hs:s.size≤maxLen) :
  Calls Tryz.prog 10 #[.string s] w fun e w'=>∃o a,e=.returned (.tuple #[.string o,.int .i64 a])∧StripIs s o a∧Below w.heap.size w w':=by
 go_enter Tryz.func10,Tryz.ntmps10
 go_wp2_with fail
 refine(read_any s w hs).mono ?_;intro e w1 hout;obtain⟨hb,v,a,b,rfl,hc,hcase⟩:=hout.says;clear hout
 by_cases ha:a=0
 ·subst ha;have hz:s.size≤240:=by
   rcases hcase with⟨h,_⟩|⟨_,h,_⟩
   ·exact absurd rfl h
   ·exact h
  clear hcase
  go_wp2_with fail
  refine(stripped_any s w1 hz).mono ?_;rintro e w2 ⟨⟨n,hn,rfl⟩,hb2⟩;go_wp2
  go_ret2
  exact⟨_,0,rfl,⟨b,hc,.inr ⟨rfl,n,hn,rfl⟩⟩,hb.trans (hb2.mono hb.size)⟩
 ·have ha':(a != 0)=true:=by simpa using ha
  clear hcase;go_wp2
  go_ret2
  exact⟨_,a,rfl,⟨b,hc,.inl ⟨ha,rfl⟩⟩,hb⟩
set_option maxHeartbeats 800000 in
set_option maxRecDepth 100000 in
theorem plays_strip(bk:Nat)(s t:ByteArray)(l:Value)(_hl:l.oneCell'=true)(w:World)(hs:s.size≤maxLen) :
  Calls Tryz.prog 5 #[.pointer (some ⟨bk,0,none⟩),.agg #[.int .i64 2,.string s,.string t,l]] w fun e w'=>e=.returned (.bool true)∧Below w.heap.size w w':=by
 have B1:Hid (∀o,Below w.heap.size w (w.alloc o)):=fun o=>(Below.refl _ _).alloc (Nat.le_refl _) o
 go_enter Tryz.func5,Tryz.ntmps5
 go_wp2_with fail
 refine(strip_any s _ hs).mono ?_;rintro e w1 ⟨o,a,rfl,hc,hb⟩;have hcell:=(hb.cell (p:=⟨w.heap.size,1,none⟩) (by simp));have HC:Hid (StripIs s o a):=hc;have HB:Hid (Below w.heap.size w w1):=(B1.out _).trans (hb.mono (by simp));clear hc hb
 go_wp2_with fail
 refine(refStrip_any s _ hs).mono ?_;rintro e w2 ⟨o',a',rfl,hc',rfl⟩;obtain⟨e1,e2⟩:=HC.out.unique hc';subst e1 e2;clear hc'
 go_wp2_with fail
 refine(num_any a _).mono ?_;rintro e w3 ⟨rfl,rfl⟩;go_wp2;go_ret;exact⟨rfl,HB.out⟩
end Go.Proofs.YtdgkpkdinfklaabGreat
