import Derived.Test.YtdgkpkdinfklaabGreatProg
import Derived.Test.YtdgkpkdinfklaabGreatGA
import Derived.WalkKit
import Derived.WalkSpells
import Derived.WalkLawsBesides
import Derived.Deep.QuietTactic
import Derived.BigQuiet
import Derived.Lib.Strings
import Derived.Lib.IndexBytes
namespace Go.Proofs.YtdgkpkdinfklaabGreat
open Go.RowKit
theorem take_snoc(s:ByteArray)(k:Nat)(h:k<s.size):s.data.toList.take (k+1)=s.data.toList.take k++[s[k]]:=by
 rw[List.take_succ_eq_append_getElem (by simpa using h)];rfl
theorem u8q(a b:UInt8):((a.toNat:Int)==(b.toNat:Int))=(a==b):=by
 rw[Bool.eq_iff_iff];simp[←UInt8.toNat_inj];omega
theorem u8t{a b:UInt8}(h:((a.toNat:Int)==(b.toNat:Int))=true):a=b:=by rw[u8q]at h;simpa using h
theorem u8f{a b:UInt8}(h:((a.toNat:Int)==(b.toNat:Int))=false):a≠b:=by rw[u8q]at h;simpa using h
theorem u8g{a b:UInt8}(h:a≠b):((a.toNat:Int)==(b.toNat:Int))=false:=by rw[u8q];simpa using h
theorem inU_snoc(l:List UInt8)(b c:UInt8):inU (l++[b]) c=(inU l c||(b==c)):=by simp[inU]
theorem inU_hit(s:ByteArray)(k:Nat)(h:k<s.size)(c:UInt8)(e:((s[k].toNat:Int)==(c.toNat:Int))=true):inU s.data.toList c=true:=by
 unfold inU;rw[List.any_eq_true];exact⟨s[k],by simp[ByteArray.getElem_eq_getElem_data],by simpa using u8t e⟩
set_option maxHeartbeats 400000 in
theorem in_any(s:ByteArray)(c:UInt8)(w:World)(hs:s.size≤maxLen) :
  Calls Tryz.prog 21 #[.string s,.int .u8 (c.toNat:Int)] w fun e w'=>e=.returned (.bool (inU s.data.toList c))∧w'=w:=by
 unfold maxLen at hs
 go_enter Tryz.func21,Tryz.ntmps21
 go_wp2
 go_loop [5] (fun i=>∃k:Nat,k≤s.size∧i=.int .i64 k∧inU (s.data.toList.take k) c=false) (fun i=>s.size-(intOf i).toNat)
 case atStart=>exact⟨0,Nat.zero_le _,rfl,rfl⟩
 case round=>
  obtain⟨k,hk,rfl,hr⟩:=hrel;have HR:Hid (inU (s.data.toList.take k) c=false):=hr;clear hr
  by_cases hlt:k<s.size
  ·by_cases he:((s[k].toNat:Int)==(c.toNat:Int))=true
   ·have HF:Hid (inU s.data.toList c=true):=inU_hit s k hlt c he;go_wp2;go_ret;rw[HF.out];exact⟨rfl,rfl⟩
   ·have he':((s[k].toNat:Int)==(c.toNat:Int))=false:=by simpa using he
    clear he;go_wp2
    go_round
    case rel=>exact⟨k+1,by omega,by go_num,by rw[take_snoc s k hlt,inU_snoc,HR.out];simpa using u8f he'⟩
    case measure=>simp[intOf];omega
  ·go_wp2;go_ret;have:s.data.toList.take k=s.data.toList:=List.take_of_length_le (by simp;omega);rw[←this,HR.out];exact⟨rfl,rfl⟩
set_option maxHeartbeats 400000 in
theorem size_any(c:UInt8)(w:World) :
  Calls Tryz.prog 20 #[.int .u8 (c.toNat:Int)] w fun e w'=>e=.returned (.int .i64 (sizeU c))∧w'=w:=by
 cases hi:inU [103,112,105,91,60] c with
 | true=>
  have hz:sizeU c=2:=by simp[sizeU,hi]
  rw[hz]
  go_enter Tryz.func20,Tryz.ntmps20
  go_wp2_with fail
  refine(in_any _ c w (by unfold maxLen;decide)).mono ?_;rintro e w' ⟨rfl,rfl⟩;rw[show inU (ByteArray.mk #[103,112,105,91,60]).data.toList c=true from hi];go_wp2;go_ret;exact⟨rfl,rfl⟩
 | false=>
  have hz:sizeU c=1:=by simp[sizeU,hi]
  rw[hz]
  go_enter Tryz.func20,Tryz.ntmps20
  go_wp2_with fail
  refine(in_any _ c w (by unfold maxLen;decide)).mono ?_;rintro e w' ⟨rfl,rfl⟩;rw[show inU (ByteArray.mk #[103,112,105,91,60]).data.toList c=false from hi];go_wp2;go_ret;exact⟨rfl,rfl⟩
set_option maxHeartbeats 400000 in
theorem opened_any(c:UInt8)(w:World) :
  Calls Tryz.prog 41 #[.int .u8 (c.toNat:Int)] w fun e w'=>e=.returned (.tuple #[.string ⟨((opnL c).getD []).toArray⟩,.bool (opnL c).isSome])∧w'=w:=by
 by_cases hc:c=103∨c=112∨c=105∨c=111∨c=91∨c=60∨c=63∨c=33
 ·rcases hc with rfl|rfl|rfl|rfl|rfl|rfl|rfl|rfl
  all_goals
   simp[opnL]
   go_enter Tryz.func41,Tryz.ntmps41
   go_wp2
   go_ret2
   exact⟨rfl,rfl⟩
 ·simp only[not_or]at hc;obtain⟨n1,n2,n3,n4,n5,n6,n7,n8⟩:=hc;have he:opnL c=none:=by simp[opnL,n1,n2,n3,n4,n5,n6,n7,n8]
  rw[he];have m1:((c.toNat:Int)==103)=false:=u8g n1;have m2:((c.toNat:Int)==112)=false:=u8g n2;have m3:((c.toNat:Int)==105)=false:=u8g n3;have m4:((c.toNat:Int)==111)=false:=u8g n4;have m5:((c.toNat:Int)==91)=false:=u8g n5;have m6:((c.toNat:Int)==60)=false:=u8g n6;have m7:((c.toNat:Int)==63)=false:=u8g n7;have m8:((c.toNat:Int)==33)=false:=u8g n8;clear n1 n2 n3 n4 n5 n6 n7 n8 he
  go_enter Tryz.func41,Tryz.ntmps41
  go_wp2
  go_ret2
  exact⟨rfl,rfl⟩
set_option maxHeartbeats 800000 in
theorem stands_any(x c:UInt8)(w:World) :
  Calls Tryz.prog 42 #[.int .u8 (x.toNat:Int),.int .u8 (c.toNat:Int)] w fun e w'=>e=.returned (.bool (stB x c))∧w'=w:=by
 by_cases hc:x=118∨x=110∨x=108∨x=107∨x=97
 ·rcases hc with rfl|rfl|rfl|rfl|rfl
  all_goals
   simp only[stB]
   go_enter Tryz.func42,Tryz.ntmps42
   go_wp2_with fail
   refine(in_any _ c w (by unfold maxLen;decide)).mono ?_;rintro e w' ⟨rfl,rfl⟩;go_wp2;go_ret;exact⟨rfl,rfl⟩
 ·simp only[not_or]at hc;obtain⟨n1,n2,n3,n4,n5⟩:=hc;have he:stB x c=(c==x):=by simp[stB,n1,n2,n3,n4,n5]
  have hu:=u8q c x;rw[he,←hu];have m1:((x.toNat:Int)==118)=false:=u8g n1;have m2:((x.toNat:Int)==110)=false:=u8g n2;have m3:((x.toNat:Int)==108)=false:=u8g n3;have m4:((x.toNat:Int)==107)=false:=u8g n4;have m5:((x.toNat:Int)==97)=false:=u8g n5;clear n1 n2 n3 n4 n5 he hu
  go_enter Tryz.func42,Tryz.ntmps42
  go_wp2;go_ret;exact⟨rfl,rfl⟩
theorem opnL_len{c:UInt8}{more:List UInt8}(h:opnL c=some more):more.length≤6:=by
 unfold opnL at h
 repeat (split at h;· (cases h;decide))
 cases h
theorem cat_data(a b:ByteArray):(a++b).data.toList=a.data.toList++b.data.toList:=by simp[ByteArray.data_append]
theorem tail_data(f:ByteArray)(k:Nat):(f.extract k f.size).data.toList=f.data.toList.drop k:=by
 rw[Lib.extract_data,List.take_of_length_le (by simp)]
theorem ne_empty(f:ByteArray)(h:0<f.size):f.toList.isEmpty=false:=by
 have hl:f.data.toList.length=f.size:=by simp
 rw[ByteArray.toList_eq,List.isEmpty_eq_false_iff];intro hn;rw[hn]at hl;simp at hl;omega
theorem ret2_eq{g:ByteArray}{x y:Bool}(h:x=y):Ending.returned (.tuple #[.string g,.bool x])=.returned (.tuple #[.string g,.bool y]):=by rw[h]
set_option maxHeartbeats 800000 in
theorem next_any(f:ByteArray)(c:UInt8)(w:World)(hf:f.size≤100000) :
  Calls Tryz.prog 18 #[.string f,.int .u8 (c.toNat:Int)] w fun e w'=>∃g:ByteArray,e=.returned (.tuple #[.string g,.bool (nxt f.data.toList c).2])∧g.data.toList=(nxt f.data.toList c).1∧w'=w:=by
 go_enter Tryz.func18,Tryz.ntmps18
 go_wp2
 go_loop [6] (fun i=>∃k:Nat,k≤f.size∧i=.int .i64 k∧nxt f.data.toList c=nxt (f.data.toList.drop k) c) (fun i=>f.size-(intOf i).toNat)
 case atStart=>exact⟨0,Nat.zero_le _,rfl,rfl⟩
 case round=>
  obtain⟨k,hk,rfl,hr⟩:=hrel;have HR:Hid (nxt f.data.toList c=nxt (f.data.toList.drop k) c):=hr;clear hr
  by_cases hlt:k<f.size
  ·have HD:Hid (f.data.toList.drop k=f[k]::f.data.toList.drop (k+1)):=List.drop_eq_getElem_cons (by simpa using hlt)
   by_cases hB:f[k]=66
   ·have hB':((f[k].toNat:Int)==66)=true:=by rw[hB];rfl
    cases ho:opnL c with
    | some more=>
     have HO:Hid (opnL c=some more):=ho;clear ho
     go_wp2_with fail
     refine(opened_any c w).mono ?_;rintro e w' ⟨rfl,rfl⟩;rw[HO.out];simp only[Option.getD_some,Option.isSome_some];obtain⟨mb,hmb⟩:∃mb:ByteArray,mb=⟨more.toArray⟩:=⟨_,rfl⟩;have hms:mb.size≤6:=by rw[hmb];exact opnL_len HO.out
     rw[←hmb];have HMB:Hid (mb=⟨more.toArray⟩):=hmb;clear hmb;go_wp2
     go_ret2
     refine⟨mb++f.extract k f.size,ret2_eq ?_,?_,rfl⟩
     ·rw[HR.out,HD.out,nxt,if_pos hB,HO.out]
     ·rw[HR.out,cat_data,tail_data,HD.out,nxt,if_pos hB,HO.out,HMB.out]
    | none=>
     have HO:Hid (opnL c=none):=ho;clear ho
     go_wp2_with fail
     refine(opened_any c w).mono ?_;rintro e w' ⟨rfl,rfl⟩;rw[HO.out];go_wp2
     go_round
     case rel=>exact⟨k+1,by omega,by go_num,by rw[HR.out,HD.out,nxt,if_pos hB,HO.out]⟩
     case measure=>simp[intOf];omega
   ·have hB':((f[k].toNat:Int)==66)=false:=u8g hB
    by_cases hM:f[k]=109
    ·have hM':((f[k].toNat:Int)==109)=true:=by rw[hM];rfl
     go_wp2
     go_ret2
     refine⟨(⟨#[66]⟩:ByteArray)++f.extract (k+1) f.size,ret2_eq ?_,?_,rfl⟩
     ·rw[HR.out,HD.out,nxt,if_neg hB,if_pos hM];exact u8q c 124
     ·rw[HR.out,cat_data,tail_data,HD.out,nxt,if_neg hB,if_pos hM];rfl
    ·have hM':((f[k].toNat:Int)==109)=false:=u8g hM
     go_wp2_with fail
     refine(stands_any f[k] c w).mono ?_;rintro e w' ⟨rfl,rfl⟩;go_wp2
     go_ret2
     refine⟨f.extract (k+1) f.size,ret2_eq ?_,?_,rfl⟩
     ·rw[HR.out,HD.out,nxt,if_neg hB,if_neg hM]
     ·rw[HR.out,tail_data,HD.out,nxt,if_neg hB,if_neg hM]
  ·go_wp2
   go_ret2
   have hd:f.data.toList.drop k=[]:=List.drop_eq_nil_of_le (by simp;omega);exact⟨⟨#[]⟩,by rw[HR.out,hd];rfl,by rw[HR.out,hd];rfl,rfl⟩
theorem all_snoc(f:ByteArray)(k:Nat)(hk1:1≤k)(h:k<f.size):(f.data.toList.drop 1).take (k+1-1)=(f.data.toList.drop 1).take (k-1)++[f[k]]:=by
 obtain⟨j,rfl⟩:∃j,k=j+1:=⟨k-1,by omega⟩;simp only[Nat.add_sub_cancel];rw[List.take_succ_eq_append_getElem (by simp;omega)]
 congr 2
 rw[List.getElem_drop];show f.data.toList[1+j]'_=f.data[j+1];simp[Nat.add_comm]
theorem whole_of{l:List UInt8}{k:Nat}(h:((l.drop 1).take k).all (·==109)=false):wholeF l=false:=by
 cases l with
 | nil=>rfl
 | cons e r=>
  simp only[List.drop_succ_cons,List.drop_zero]at h;have:r.all (·==109)=false:=by
   cases hr:r.all (·==109)with
   | false=>rfl
   | true=>
    rw[List.all_eq_true]at hr;have:(r.take k).all (·==109)=true:=by rw[List.all_eq_true];exact fun x hx=>hr x (List.mem_of_mem_take hx)
    rw[this]at h;cases h
  simp[wholeF,this]
theorem whole_end(f:ByteArray)(h0:0<f.size)(h:(f.data.toList.drop 1).all (·==109)=true):wholeF f.data.toList=(f[0]==66):=by
 have e:f.data.toList=f[0]::f.data.toList.drop 1:=by
  exact List.drop_eq_getElem_cons (l:=f.data.toList) (i:=0) (by simpa using h0)
 rw[e,wholeF,h,Bool.and_true]
set_option maxHeartbeats 800000 in
theorem whole_any(f:ByteArray)(w:World)(hf:f.size≤100000) :
  Calls Tryz.prog 19 #[.string f] w fun e w'=>e=.returned (.bool (wholeF f.data.toList))∧w'=w:=by
 go_enter Tryz.func19,Tryz.ntmps19
 go_wp2
 go_loop [3] (fun i=>∃k:Nat,1≤k∧(k≤f.size∨k=1)∧i=.int .i64 k∧((f.data.toList.drop 1).take (k-1)).all (·==109)=true) (fun i=>f.size-(intOf i).toNat)
 case atStart=>exact⟨1,by omega,.inr rfl,rfl,rfl⟩
 case round=>
  obtain⟨k,hk1,hk,rfl,hr⟩:=hrel;have HR:Hid (((f.data.toList.drop 1).take (k-1)).all (·==109)=true):=hr;clear hr
  by_cases hlt:k<f.size
  ·by_cases hM:f[k]=109
   ·have hM':((f[k].toNat:Int) != 109)=false:=by rw[hM];rfl
    go_wp2
    go_round
    case rel=>exact⟨k+1,by omega,by omega,by go_num,by rw[all_snoc f k hk1 hlt,List.all_append,HR.out,hM];rfl⟩
    case measure=>simp[intOf];omega
   ·have hM':((f[k].toNat:Int) != 109)=true:=by have:=u8g hM;simp only[bne];exact congrArg not this
    have HW:Hid (wholeF f.data.toList=false):=whole_of (k:=k+1-1) (by rw[all_snoc f k hk1 hlt,List.all_append];simp[hM]);go_wp2;go_ret;rw[HW.out];exact⟨rfl,rfl⟩
  ·by_cases h0:f.size=0
   ·have hf0:f=⟨#[]⟩:=by
     apply ByteArray.ext;exact Array.eq_empty_of_size_eq_zero h0
    subst hf0;clear HR;go_wp2;go_ret;exact⟨rfl,rfl⟩
   ·have HE:Hid (wholeF f.data.toList=((f[0]'(by omega)).toNat==(66:Int))):=by
     have:=HR.out;rw[List.take_of_length_le (by simp;omega)]at this;rw[show wholeF f.data.toList=_ from whole_end f (by omega) this];exact(u8q _ _).symm
    clear HR;have h0':0<f.size:=by omega
    have hne:=ne_empty f h0';go_wp2;go_ret;rw[HE.out];exact⟨rfl,rfl⟩
set_option maxHeartbeats 800000 in
theorem held_any(now s:ByteArray)(i:Nat)(w:World)(hn:now.size≤100000)(hs:s.size≤240)(hi:i<s.size)(h2:s[i]=91∨s[i]=60→i+1<s.size) :
  Calls Tryz.prog 22 #[.string now,.string s,.int .i64 i] w fun e w'=>∃g:ByteArray,e=.returned (.string g)∧g.data.toList=heldU now.data.toList s.data.toList i∧w'=w:=by
 have hb:s.data.toList[i]?=some s[i]:=by rw[List.getElem?_eq_getElem (by simpa using hi)];rfl
 by_cases h1:s[i]=91∨s[i]=60
 ·have hi1:=h2 h1;have hb1:s.data.toList[i+1]?=some s[i+1]:=by rw[List.getElem?_eq_getElem (by simpa using hi1)];rfl
  have HH:Hid (heldU now.data.toList s.data.toList i=now.data.toList++[s[i+1]]):=by
   show heldU now.data.toList s.data.toList i=now.data.toList++[s[i+1]];simp[heldU,hb,hb1,h1]
  clear hb hb1 h2;rcases h1 with h1|h1
  all_goals
   go_enter Tryz.func22,Tryz.ntmps22
   go_wp2;go_ret;refine⟨_,rfl,?_,rfl⟩;rw[HH.out,cat_data,Lib.extract_data];rw[List.drop_eq_getElem_cons (by simpa using hi1),show i+2-(i+1)=1 by omega];rfl
 ·by_cases h3:s[i]=93∨s[i]=62
  ·have HH:Hid (heldU now.data.toList s.data.toList i=now.data.toList.dropLast):=by
    show heldU now.data.toList s.data.toList i=now.data.toList.dropLast;simp[heldU,hb,h1,h3]
   simp only[not_or]at h1;have m1:((s[i].toNat:Int)==91)=false:=u8g h1.1;have m2:((s[i].toNat:Int)==60)=false:=u8g h1.2;clear hb h1 h2
   by_cases h0:now.size=0
   ·have hf0:now=⟨#[]⟩:=by
     apply ByteArray.ext;exact Array.eq_empty_of_size_eq_zero h0
    subst hf0;rcases h3 with h3|h3
    all_goals
     go_enter Tryz.func22,Tryz.ntmps22
     go_wp2;go_ret;exact⟨_,rfl,by rw[HH.out];rfl,rfl⟩
   ·have h0':0<now.size:=by omega
    have hne:=ne_empty now h0';rcases h3 with h3|h3
    all_goals
     go_enter Tryz.func22,Tryz.ntmps22
     go_wp2;go_ret;refine⟨_,rfl,?_,rfl⟩;rw[HH.out,Lib.extract_data,List.drop_zero,List.dropLast_eq_take];simp
  ·have HH:Hid (heldU now.data.toList s.data.toList i=now.data.toList):=by
    show heldU now.data.toList s.data.toList i=now.data.toList;simp[heldU,hb,h1,h3]
   simp only[not_or]at h1 h3;have m1:((s[i].toNat:Int)==91)=false:=u8g h1.1;have m2:((s[i].toNat:Int)==60)=false:=u8g h1.2;have m3:((s[i].toNat:Int)==93)=false:=u8g h3.1;have m4:((s[i].toNat:Int)==62)=false:=u8g h3.2;clear hb h1 h2 h3
   go_enter Tryz.func22,Tryz.ntmps22
   go_wp2;go_ret;exact⟨_,rfl,HH.out.symm,rfl⟩
theorem nxt_len(f:List UInt8)(c:UInt8):(nxt f c).1.length≤f.length+6:=by
 induction f with
 | nil=>simp[nxt]
 | cons e r ih=>
  unfold nxt
  split
  ·split
   ·rename_i more hm;have:=opnL_len hm;simp;omega
   ·simp;omega
  ·split
   ·simp
   ·simp;omega
theorem fw_len{p:List UInt8}{k:Nat}{f:List UInt8}(h:fw p k=some f):f.length≤4+6*k:=by
 induction k generalizing f with
 | zero=>simp[fw]at h;subst h;simp
 | succ k ih=>
  rw[fw]at h
  split at h
  ·rename_i g c hg hc
   split at h
   ·cases h;have:=nxt_len g c;have:=ih hg;omega
   ·cases h
  ·cases h
theorem fw_next{p:List UInt8}{k:Nat}{f g:List UInt8}{c:UInt8}(h:fw p k=some f)(hc:p[k]?=some c)(hg:fw p (k+1)=some g):(nxt f c).2=true∧(nxt f c).1=g:=by
 rw[fw,h,hc]at hg;simp only at hg
 split at hg
 ·rename_i h2;cases hg;exact⟨h2,rfl⟩
 ·cases hg
theorem byteAt(s:ByteArray)(k:Nat)(h:k<s.size):s.data.toList[k]?=some s[k]:=by
 rw[List.getElem?_eq_getElem (by simpa using h)];rfl
theorem len_eq(s:ByteArray):s.data.toList.length=s.size:=by simp
set_option maxHeartbeats 800000 in
theorem refCheck_long(s:ByteArray)(w:World)(h:240<s.size)(hs:s.size≤maxLen) :
  Calls Tryz.prog 8 #[.string s] w fun e w'=>e=.returned (.tuple #[.int .i64 1,.int .i64 0])∧w'=w:=by
 unfold maxLen at hs
 go_enter Tryz.func8,Tryz.ntmps8
 go_wp2
 go_ret2
 exact⟨rfl,rfl⟩
set_option maxHeartbeats 1600000 in
theorem refCheck_fail(s:ByteArray)(q:Nat)(w:World)(h:s.size≤240)(hf:Fail s.data.toList q) :
  Calls Tryz.prog 8 #[.string s] w fun e w'=>e=.returned (.tuple #[.int .i64 2,.int .i64 q])∧w'=w:=by
 have hq:=fail_le hf;rw[len_eq]at hq;have hfq:∃g,fw s.data.toList q=some g:=by
  rcases hf with⟨g,_,_,hg,_⟩|⟨_,g,hg,_⟩<;>exact⟨g,hg⟩
 have HF:Hid (Fail s.data.toList q):=hf;have HQ:Hid (∃g,fw s.data.toList q=some g):=hfq;clear hf hfq
 go_enter Tryz.func8,Tryz.ntmps8
 go_wp2
 go_loop [4,5] (fun fm i=>∃(k:Nat) (f:ByteArray),k≤q∧i=.int .i64 k∧fm=.string f∧f.size≤4+6*k∧fw s.data.toList k=some f.data.toList) (fun _ i=>s.size-(intOf i).toNat)
 case atStart=>exact⟨0,⟨#[66,109,109,109]⟩,Nat.zero_le _,rfl,rfl,by decide,rfl⟩
 case round=>
  obtain⟨k,f,hk,rfl,rfl,hfs,hfw⟩:=hrel;have HW:Hid (fw s.data.toList k=some f.data.toList):=hfw;clear hfw
  by_cases hlt:k<s.size
  ·by_cases hkq:k<q
   ·obtain⟨g0,hg0⟩:=HQ.out;obtain⟨g1,hg1⟩:=fw_prefix hg0 (show k+1≤q by omega);obtain⟨n1,n2⟩:=fw_next HW.out (byteAt s k hlt) hg1;have HG:Hid (fw s.data.toList (k+1)=some g1):=hg1;have N1:Hid ((nxt f.data.toList s[k]).2=true):=n1;have N2:Hid ((nxt f.data.toList s[k]).1=g1):=n2;clear hg0 hg1 n1 n2 g0
    go_wp2_with fail
    refine(next_any f s[k] w (by omega)).mono ?_;rintro e w' ⟨g,rfl,hg,rfl⟩;rw[N1.out];have HGG:Hid (g.data.toList=(nxt f.data.toList s[k]).1):=hg;clear hg;go_wp2
    go_round
    case rel=>
     refine⟨k+1,g,by omega,by go_num,rfl,?_,by rw[HG.out,HGG.out,N2.out]⟩;have e1:=HGG.out;rw[N2.out]at e1;have:=fw_len HG.out;rw[←e1,len_eq]at this;omega
    case measure=>simp[intOf];omega
   ·have hkq':k=q:=by omega
    have N1:Hid ((nxt f.data.toList s[k]).2=false):=by
     rcases HF.out with⟨g,c,hl,hg,hc,hn⟩|⟨hl,g,hg,hn⟩
     ·rw[←hkq']at hg hc;rw[HW.out]at hg;cases hg;rw[byteAt s k hlt]at hc;cases hc;exact hn
     ·rw[len_eq]at hl;omega
    subst hkq'
    go_wp2_with fail
    refine(next_any f s[k] w (by omega)).mono ?_;rintro e w' ⟨g,rfl,hg,rfl⟩;rw[N1.out];clear hg;go_wp2
    go_ret2
    exact⟨rfl,rfl⟩
  ·have hkq:k=s.size:=by omega
   have hqs:q=s.size:=by omega
   have N1:Hid (wholeF f.data.toList=false):=by
    rcases HF.out with⟨g,c,hl,hg,hc,hn⟩|⟨hl,g,hg,hn⟩
    ·rw[len_eq]at hl;omega
    ·have hw:=HW.out;rw[hkq,←hqs,hg]at hw;cases hw;exact hn
   subst hqs;clear hkq
   go_wp2_with fail
   refine(whole_any f w (by omega)).mono ?_;rintro e w' ⟨rfl,rfl⟩;rw[N1.out];go_wp2
   go_ret2
   exact⟨rfl,rfl⟩
theorem nest_mk{i:Nat}{th:Int}{d:UInt8}{now:List UInt8}(h:MkOk (mkN 3 i th (d.toNat-65) now)):nestB (mkN 3 i th (d.toNat-65) now)=inU now d:=by
 have hd:(d.toNat:Int)-65=0∨(d.toNat:Int)-65=1∨(d.toNat:Int)-65=2∨(d.toNat:Int)-65=3∨(d.toNat:Int)-65=4:=by
  rcases h with⟨_,h1,h2⟩|⟨h0,_⟩
  ·simp only[mkN]at h1 h2;omega
  ·simp[mkN]at h0
 have key:∀n:Nat,n<5→(d.toNat:Int)-65=n→d=UInt8.ofNat (65+n):=by
  intro n hn e;apply UInt8.toNat_inj.1;have:d.toNat=65+n:=by omega
  rw[this,UInt8.toNat_ofNat_of_lt' (by show 65+n<256;omega)]
 rcases hd with e|e|e|e|e
 ·have hk:=key 0 (by decide) (by simpa using e);subst hk;simp[nestB,mkN]
 ·have hk:=key 1 (by decide) (by simpa using e);subst hk;simp[nestB,mkN]
 ·have hk:=key 2 (by decide) (by simpa using e);subst hk;simp[nestB,mkN]
 ·have hk:=key 3 (by decide) (by simpa using e);subst hk;simp[nestB,mkN]
 ·have hk:=key 4 (by decide) (by simpa using e);subst hk;simp[nestB,mkN]
theorem nest_acc{kind i:Nat}{th num:Int}{now:List UInt8}(h:kind≠3):nestB (mkN kind i th num now)=false:=by
 have:((kind:Int)==3)=false:=by rw[beq_eq_false_iff_ne];omega
 simp[nestB,mkN,this]
theorem heldU_len(now p:List UInt8)(i:Nat):(heldU now p i).length≤now.length+1:=by
 unfold heldU
 split
 ·omega
 ·split
  ·simp
  ·split
   ·simp;omega
   ·omega
def nestOf(mks:List MK):Int×Int:=match mks.find? nestB with|none=>(0,0)|some m=>(3,m.place)
theorem tw_at{p:List UInt8}{k:Nat}{c:UInt8}(hlt:(tw p k).i<p.length)(hc:p[(tw p k).i]?=some c):(tw p (k+1)).i=(tw p k).i+sizeU c∧(tw p (k+1)).now=heldU (tw p k).now p (tw p k).i ∧
  (tw p (k+1)).th=(if c=124 then(tw p k).th+1 else(tw p k).th) ∧
  (tw p (k+1)).mks=(if c=91∨c=60 then(tw p k).mks++[mkN 3 (tw p k).i (tw p k).th (((p[(tw p k).i+1]?).getD 0).toNat-65) (tw p k).now]
   else if c=103∨c=112 then(tw p k).mks++[mkN (if c=112 then 2 else 1) (tw p k).i (tw p k).th (((p[(tw p k).i+1]?).getD 0).toNat-120) (tw p k).now]
   else(tw p k).mks):=by
 rw[tw,if_pos hlt,tstep,hc];exact⟨rfl,rfl,rfl,rfl⟩
theorem nestOf_hit{mks a l:List MK}{m:MK}(h:mks=a++[m]++l)(h0:a.find? nestB=none)(h1:nestB m=true):nestOf mks=(3,m.place):=by
 have:mks.find? nestB=some m:=by rw[h,List.find?_append,List.find?_append,h0,List.find?_cons,h1];rfl
 rw[nestOf,this]
theorem find_snoc{a:List MK}{m:MK}(h0:a.find? nestB=none)(h1:nestB m=false):(a++[m]).find? nestB=none:=by
 rw[List.find?_append,h0,List.find?_cons,h1];rfl
set_option maxHeartbeats 1600000 in
theorem refCheck_acc(s:ByteArray)(mks:List MK)(w:World)(h:s.size≤240)(ha:Acc s.data.toList mks) :
  Calls Tryz.prog 8 #[.string s] w fun e w'=>e=.returned (.tuple #[.int .i64 (nestOf mks).1,.int .i64 (nestOf mks).2])∧w'=w:=by
 obtain⟨ff,hff,hww⟩:=ha.form;rw[len_eq]at hff;have HF:Hid (fw s.data.toList s.size=some ff):=hff;have HWW:Hid (wholeF ff=true):=hww;have HA:Hid (Acc s.data.toList mks):=ha;clear hff hww ha
 go_enter Tryz.func8,Tryz.ntmps8
 go_wp2
 go_loop [4,5] (fun fm i=>∃(k:Nat) (f:ByteArray),k≤s.size∧i=.int .i64 k∧fm=.string f∧f.size≤4+6*k∧fw s.data.toList k=some f.data.toList) (fun _ i=>s.size-(intOf i).toNat)
 case atStart=>exact⟨0,⟨#[66,109,109,109]⟩,Nat.zero_le _,rfl,rfl,by decide,rfl⟩
 case round=>
  obtain⟨k,f,hk,rfl,rfl,hfs,hfw⟩:=hrel;have HW:Hid (fw s.data.toList k=some f.data.toList):=hfw;clear hfw
  by_cases hlt:k<s.size
  ·obtain⟨g1,hg1⟩:=fw_prefix HF.out (show k+1≤s.size by omega);obtain⟨n1,n2⟩:=fw_next HW.out (byteAt s k hlt) hg1;have HG:Hid (fw s.data.toList (k+1)=some g1):=hg1;have N1:Hid ((nxt f.data.toList s[k]).2=true):=n1;have N2:Hid ((nxt f.data.toList s[k]).1=g1):=n2;clear hg1 n1 n2
   go_wp2_with fail
   refine(next_any f s[k] w (by omega)).mono ?_;rintro e w' ⟨g,rfl,hg,rfl⟩;rw[N1.out];have HGG:Hid (g.data.toList=(nxt f.data.toList s[k]).1):=hg;clear hg;go_wp2
   go_round
   case rel=>
    refine⟨k+1,g,by omega,by go_num,rfl,?_,by rw[HG.out,HGG.out,N2.out]⟩;have e1:=HGG.out;rw[N2.out]at e1;have:=fw_len HG.out;rw[←e1,len_eq]at this;omega
   case measure=>simp[intOf];omega
  ·have hkq:k=s.size:=by omega
   have N1:Hid (wholeF f.data.toList=true):=by
    have hw:=HW.out;rw[hkq,HF.out]at hw;cases hw;exact HWW.out
   clear hkq HW
   go_wp2_with fail
   refine(whole_any f w (by omega)).mono ?_;rintro e w' ⟨rfl,rfl⟩;rw[N1.out];clear N1;go_wp2
   go_loop [9,10] (fun nw i=>∃(k j:Nat) (now:ByteArray),i=.int .i64 k∧nw=.string now∧(tw s.data.toList j).i=k∧(tw s.data.toList j).now=now.data.toList∧now.size≤k∧k≤s.size∧(tw s.data.toList j).mks.find? nestB=none) (fun _ i=>s.size-(intOf i).toNat)
   case atStart=>exact⟨0,0,⟨#[]⟩,rfl,rfl,rfl,rfl,by decide,Nat.zero_le _,rfl⟩
   case round=>
    obtain⟨k,j,now,rfl,rfl,hki,hkn,hns,hks,hfn⟩:=hrel
    by_cases hlt:k<s.size
    ·have hlt':(tw s.data.toList j).i<s.data.toList.length:=by rw[hki,len_eq];exact hlt
     have hc:s.data.toList[(tw s.data.toList j).i]?=some s[k]:=by rw[hki];exact byteAt s k hlt
     obtain⟨t1,t2,t3,t4⟩:=tw_at hlt' hc;obtain⟨room,l,hl⟩:=acc_room HA.out hlt' hc;rw[hki,len_eq]at room;rw[hki]at t1 t2 t4;rw[hkn]at t2 t4;have ROOM:Hid (k+sizeU s[k]≤s.size):=room;have hz:=sizeU_pos s[k];have T1:Hid ((tw s.data.toList (j+1)).i=k+sizeU s[k]):=t1;have T2:Hid ((tw s.data.toList (j+1)).now=heldU now.data.toList s.data.toList k):=t2;have HFN:Hid ((tw s.data.toList j).mks.find? nestB=none):=hfn;have HL:Hid (mks=(tw s.data.toList (j+1)).mks++l):=hl;have HLEN:Hid ((heldU now.data.toList s.data.toList k).length≤now.size+1):=by
      have:=heldU_len now.data.toList s.data.toList k;rw[len_eq]at this;exact this
     have hsz2:s[k]=91∨s[k]=60→k+1<s.size:=by
      intro h';have:sizeU s[k]=2:=by rcases h' with h'|h'<;>rw[h']<;>rfl
      omega
     by_cases htk:s[k]=91∨s[k]=60
     ·have hk1:k+1<s.size:=hsz2 htk;have hd:s.data.toList[k+1]?=some s[k+1]:=byteAt s (k+1) hk1;rw[if_pos htk,hd]at t4;simp only[Option.getD_some]at t4;have hmem:mkN 3 k (tw s.data.toList j).th ((s[k+1].toNat:Int)-65) now.data.toList∈mks:=by rw[hl,t4];simp
      have hnest:=nest_mk (HA.out.marks _ hmem);have HT4:Hid ((tw s.data.toList (j+1)).mks=(tw s.data.toList j).mks++[mkN 3 k (tw s.data.toList j).th ((s[k+1].toNat:Int)-65) now.data.toList]):=t4;have HNEST:Hid (nestB (mkN 3 k (tw s.data.toList j).th ((s[k+1].toNat:Int)-65) now.data.toList)=inU now.data.toList s[k+1]):=hnest;have HSZ2:Hid (s[k]=91∨s[k]=60→k+1<s.size):=hsz2;have hz2:sizeU s[k]=2:=by rcases htk with h'|h'<;>rw[h']<;>rfl
      have HZ2:Hid (sizeU s[k]=2):=hz2;clear hmem hnest t1 t2 t3 t4 hl hfn hki hkn hlt' hc hd hsz2 room hz2 hz;cases hin:inU now.data.toList s[k+1]with
      | true=>
       have ho1:=HL.out;rw[HT4.out]at ho1;have ho2:nestOf mks=(3,(k:Int)):=nestOf_hit (m:=mkN 3 k (tw s.data.toList j).th ((s[k+1].toNat:Int)-65) now.data.toList) (l:=l) ho1 HFN.out (by rw[HNEST.out,hin]);have HO:Hid (nestOf mks=(3,(k:Int))):=ho2;clear ho1 ho2;have HIN:Hid (inU now.data.toList s[k+1]=true):=hin;clear hin
       by_cases h91:s[k]=91
       ·have b91:((s[k].toNat:Int)==91)=true:=by rw[h91];rfl
        clear h91 htk
        go_wp2_with fail
        refine(in_any now s[k+1] _ (by unfold maxLen;omega)).mono ?_;rintro e w' ⟨rfl,rfl⟩;rw[HIN.out];go_wp2
        go_ret2
        rw[HO.out];exact⟨rfl,rfl⟩
       ·have b91:((s[k].toNat:Int)==91)=false:=u8g h91;have b60:((s[k].toNat:Int)==60)=true:=by rcases htk with h'|h';exact absurd h' h91;rw[h'];rfl
        clear h91 htk
        go_wp2_with fail
        refine(in_any now s[k+1] _ (by unfold maxLen;omega)).mono ?_;rintro e w' ⟨rfl,rfl⟩;rw[HIN.out];go_wp2
        go_ret2
        rw[HO.out];exact⟨rfl,rfl⟩
      | false=>
       have HIN:Hid (inU now.data.toList s[k+1]=false):=hin;have HFN2:Hid ((tw s.data.toList (j+1)).mks.find? nestB=none):=by
        have:=find_snoc HFN.out (show nestB (mkN 3 k (tw s.data.toList j).th ((s[k+1].toNat:Int)-65) now.data.toList)=false by rw[HNEST.out,hin]);rw[←HT4.out]at this;exact this
       clear hin
       by_cases h91:s[k]=91
       ·have b91:((s[k].toNat:Int)==91)=true:=by rw[h91];rfl
        clear h91 htk
        go_wp2_with fail
        refine(in_any now s[k+1] _ (by unfold maxLen;omega)).mono ?_;rintro e w' ⟨rfl,rfl⟩;rw[HIN.out]
        go_wp2_with fail
        refine(held_any now s k _ (by omega) (by omega) hlt HSZ2.out).mono ?_;rintro e w' ⟨g,rfl,hg,rfl⟩;have HG:Hid (g.data.toList=heldU now.data.toList s.data.toList k):=hg;clear hg
        go_wp2_with fail
        refine(size_any s[k] _).mono ?_;rintro e w' ⟨rfl,rfl⟩;rw[HZ2.out];go_wp2
        go_round
        case rel=>
         refine⟨k+2,j+1,g,by go_num,rfl,by rw[T1.out,HZ2.out],by rw[T2.out,HG.out],?_,by omega,HFN2.out⟩;have:=HLEN.out;rw[←HG.out,len_eq]at this;omega
        case measure=>simp[intOf];omega
       ·have b91:((s[k].toNat:Int)==91)=false:=u8g h91;have b60:((s[k].toNat:Int)==60)=true:=by rcases htk with h'|h';exact absurd h' h91;rw[h'];rfl
        clear h91 htk
        go_wp2_with fail
        refine(in_any now s[k+1] _ (by unfold maxLen;omega)).mono ?_;rintro e w' ⟨rfl,rfl⟩;rw[HIN.out]
        go_wp2_with fail
        refine(held_any now s k _ (by omega) (by omega) hlt HSZ2.out).mono ?_;rintro e w' ⟨g,rfl,hg,rfl⟩;have HG:Hid (g.data.toList=heldU now.data.toList s.data.toList k):=hg;clear hg
        go_wp2_with fail
        refine(size_any s[k] _).mono ?_;rintro e w' ⟨rfl,rfl⟩;rw[HZ2.out];go_wp2
        go_round
        case rel=>
         refine⟨k+2,j+1,g,by go_num,rfl,by rw[T1.out,HZ2.out],by rw[T2.out,HG.out],?_,by omega,HFN2.out⟩;have:=HLEN.out;rw[←HG.out,len_eq]at this;omega
        case measure=>simp[intOf];omega
     ·have HFN2:Hid ((tw s.data.toList (j+1)).mks.find? nestB=none):=by
       show(tw s.data.toList (j+1)).mks.find? nestB=none;rw[t4,if_neg htk]
       split
       ·refine find_snoc hfn ?_
        split
        ·exact nest_acc (kind:=2) (by decide)
        ·exact nest_acc (kind:=1) (by decide)
       ·exact hfn
      have HSZ2:Hid (s[k]=91∨s[k]=60→k+1<s.size):=hsz2;simp only[not_or]at htk;have b91:((s[k].toNat:Int)==91)=false:=u8g htk.1;have b60:((s[k].toNat:Int)==60)=false:=u8g htk.2;obtain⟨z,hzz⟩:∃z,z=sizeU s[k]:=⟨_,rfl⟩;have HZ:Hid (z=sizeU s[k]):=hzz;rw[←hzz]at hz room;clear htk t1 t2 t3 t4 hl hfn hki hkn hlt' hc hsz2 ROOM hzz
      go_wp2_with fail
      refine(held_any now s k _ (by omega) (by omega) hlt HSZ2.out).mono ?_;rintro e w' ⟨g,rfl,hg,rfl⟩;have HG:Hid (g.data.toList=heldU now.data.toList s.data.toList k):=hg;clear hg
      go_wp2_with fail
      refine(size_any s[k] _).mono ?_;rintro e w' ⟨rfl,rfl⟩;rw[←HZ.out];go_wp2
      go_round
      case rel=>
       refine⟨k+z,j+1,g,by go_num,rfl,by rw[T1.out,HZ.out],by rw[T2.out,HG.out],?_,by omega,HFN2.out⟩;have:=HLEN.out;rw[←HG.out,len_eq]at this;omega
      case measure=>simp[intOf];omega
    ·have he:nestOf mks=(0,0):=by
      have:=(acc_end HA.out (k:=j) (by rw[hki,len_eq];omega)).1;rw[←this,nestOf,hfn]
     have HE:Hid (nestOf mks=(0,0)):=he;clear he hki hkn hfn;go_wp2
     go_ret2
     rw[HE.out];exact⟨rfl,rfl⟩
end Go.Proofs.YtdgkpkdinfklaabGreat
