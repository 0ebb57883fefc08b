import Derived.Test.YtdgkpkdinfklaabGreatGC
import Derived.Test.YtdgkpkdinfklaabGreatGD
namespace Go.Proofs.YtdgkpkdinfklaabGreat
open Go.RowKit
def ChkIs(s:ByteArray)(a b:Int):Prop:=
 (240<s.size∧a=1∧b=0)∨(s.size≤240∧((∃q:Nat,Fail s.data.toList q∧a=2∧b=q)∨(∃mks,Acc s.data.toList mks∧a=(nestOf mks).1∧b=(nestOf mks).2)))
theorem ChkIs.unique{s:ByteArray}{a b a' b':Int}(h:ChkIs s a b)(h':ChkIs s a' b'):a=a'∧b=b':=by
 rcases h with⟨h1,rfl,rfl⟩|⟨h1,h⟩
 ·rcases h' with⟨_,rfl,rfl⟩|⟨h2,_⟩
  ·exact⟨rfl,rfl⟩
  ·omega
 ·rcases h' with⟨h2,_⟩|⟨_,h'⟩
  ·omega
  ·rcases h with⟨q,hq,rfl,rfl⟩|⟨m,hm,rfl,rfl⟩
   ·rcases h' with⟨q',hq',rfl,rfl⟩|⟨m',hm',_⟩
    ·rw[fail_unique hq hq'];exact⟨rfl,rfl⟩
    ·exact(fail_not_acc hq hm').elim
   ·rcases h' with⟨q',hq',_⟩|⟨m',hm',rfl,rfl⟩
    ·exact(fail_not_acc hq' hm).elim
    ·rw[acc_unique hm hm'];exact⟨rfl,rfl⟩
theorem reach_end(p:List UInt8):∃r,Reach p r∧(r.pl=p.length∨(r.pl<p.length∧(r.piece p).2=false)):=by
 have key:∀n r,Reach p r→p.length-r.pl≤n→∃r,Reach p r∧(r.pl=p.length∨(r.pl<p.length∧(r.piece p).2=false)):=by
  intro n
  induction n with
  | zero=>
   intro r hr hn;have:=hr.bd.pl;exact⟨r,hr,.inl (by omega)⟩
  | succ n ih=>
   intro r hr hn;have hb:=hr.bd.pl
   by_cases he:r.pl=p.length
   ·exact⟨r,hr,.inl he⟩
   ·have hlt:r.pl<p.length:=by omega
    cases hq:(r.piece p).2 with
    | false=>exact⟨r,hr,.inr ⟨hlt,hq⟩⟩
    | true=>
     have hpr:=(piece_bd hr.bd hlt).2 hq;exact ih (r.piece p).1 (.step hr hlt (by rw[←hq])) (by omega)
 exact key _ _ .start (Nat.le_refl _)
theorem chk_total(s:ByteArray):∃a b,ChkIs s a b:=by
 by_cases h:240<s.size
 ·exact⟨1,0,.inl ⟨h,rfl,rfl⟩⟩
 ·obtain⟨r,hr,he|⟨hl,hf⟩⟩:=reach_end s.data.toList
  ·by_cases ho:r.op=[]
   ·exact⟨_,_,.inr ⟨by omega,.inr ⟨_,acc_of hr he ho,rfl,rfl⟩⟩⟩
   ·exact⟨_,_,.inr ⟨by omega,.inl ⟨_,fail_end hr he ho,rfl,rfl⟩⟩⟩
  ·exact⟨_,_,.inr ⟨by omega,.inl ⟨_,fail_piece hr hl hf,rfl,rfl⟩⟩⟩
theorem read_any(s:ByteArray)(w:World)(hs:s.size≤maxLen):Calls Tryz.prog 17 #[.string s] w fun e w'=>ReadOut w s e w':=by
 by_cases h:240<s.size
 ·exact read_long s w h hs
 ·exact read_short s w (by omega)
def StepsOf(p:List UInt8)(F:List ST):Prop:=∃r,ReachT p r∧r.pl=p.length∧r.op=[]∧F=(r.step 9 r.pl 0 false).st
theorem end_mks(r:RT):mksS (r.step 9 r.pl 0 false).st=r.proj.mks:=by
 have:=proj_step_no r 9 r.pl 0 false (by decide) (by decide) (by decide);exact congrArg RS.mks this
theorem StepsOf.acc{p:List UInt8}{F:List ST}(h:StepsOf p F):Acc p (mksS F):=by
 obtain⟨r,hr,he,ho,rfl⟩:=h;rw[end_mks];exact acc_of hr.proj he (by simp[RT.proj,ho])
theorem StepsOf.len{p:List UInt8}{F:List ST}(h:StepsOf p F):F.length≤p.length+1:=by
 obtain⟨r,hr,he,ho,rfl⟩:=h;have:=hr.bd.st;simp[RT.step];omega
theorem ReadOut.says{w:World}{s:ByteArray}{e:Ending}{w':World}(h:ReadOut w s e w'):Below w.heap.size w w'∧∃v a b,e=.returned (.tuple #[v,.int .i64 a,.int .i64 b])∧ChkIs s a b ∧
  ((a≠0∧v=.slice none 0 0)∨(a=0∧s.size≤240∧∃am cm F,v=.slice am F.length cm∧StepsOf s.data.toList F∧F.find? nestS=none∧w'.ownsRow w.heap.size 88 12 (.slice am F.length cm) F.length (stsV F))):=by
 obtain⟨hb,h⟩:=h;refine⟨hb,?_⟩;rcases h with⟨h1,rfl⟩|⟨h1,r,hr,h⟩
 ·exact⟨_,1,0,rfl,.inl ⟨h1,rfl,rfl⟩,.inl ⟨by decide,rfl⟩⟩
 ·rcases h with⟨he,ho,rfl⟩|⟨hl,hf,rfl⟩|⟨he,ho,m,hm,rfl⟩|⟨he,ho,hm,am,cm,rfl,hown⟩
  ·exact⟨_,2,_,rfl,.inr ⟨h1,.inl ⟨_,fail_end hr.proj (by rw[len_eq];exact he) (by simpa[RT.proj]using ho),rfl,rfl⟩⟩,.inl ⟨by decide,rfl⟩⟩
  ·have hs:=piece_same s.data.toList r;have:=fail_piece hr.proj (by rw[len_eq];exact hl) (by rw[←hs.1];exact hf);rw[←hs.2.1]at this;exact⟨_,2,_,rfl,.inr ⟨h1,.inl ⟨_,this,rfl,rfl⟩⟩,.inl ⟨by decide,rfl⟩⟩
  ·have hst:StepsOf s.data.toList (r.step 9 r.pl 0 false).st:=⟨r,hr,by rw[len_eq];exact he,ho,rfl⟩;obtain⟨k,hk,hpl⟩:=(nest_find (r.step 9 r.pl 0 false).st).2 m hm;have hf:=(nest_find (r.step 9 r.pl 0 false).st).1;rw[hm,Option.bind_some,hk]at hf;refine⟨_,3,_,rfl,.inr ⟨h1,.inr ⟨_,hst.acc,?_,?_⟩⟩,.inl ⟨by decide,rfl⟩⟩<;>simp[nestOf,hf,hpl]
  ·have hst:StepsOf s.data.toList (r.step 9 r.pl 0 false).st:=⟨r,hr,by rw[len_eq];exact he,ho,rfl⟩;have hf:=(nest_find (r.step 9 r.pl 0 false).st).1;rw[hm,Option.bind_none]at hf;refine⟨_,0,0,rfl,.inr ⟨h1,.inr ⟨_,hst.acc,?_,?_⟩⟩,.inr ⟨rfl,h1,am,cm,_,rfl,hst,hm,hown⟩⟩<;>simp[nestOf,hf]
theorem refCheck_any(s:ByteArray)(w:World)(hs:s.size≤maxLen) :
  Calls Tryz.prog 8 #[.string s] w fun e w'=>∃a b,e=.returned (.tuple #[.int .i64 a,.int .i64 b])∧ChkIs s a b∧w'=w:=by
 obtain⟨a,b,hc⟩:=chk_total s;have H:=hc;rcases hc with⟨h1,rfl,rfl⟩|⟨h1,⟨q,hq,rfl,rfl⟩|⟨m,hm,rfl,rfl⟩⟩
 ·exact(refCheck_long s w h1 hs).mono fun e w' ⟨he,hw⟩=>⟨_,_,he,H,hw⟩
 ·exact(refCheck_fail s q w h1 hq).mono fun e w' ⟨he,hw⟩=>⟨_,_,he,H,hw⟩
 ·exact(refCheck_acc s m w h1 hm).mono fun e w' ⟨he,hw⟩=>⟨_,_,he,H,hw⟩
set_option maxHeartbeats 400000 in
theorem check_any(s:ByteArray)(w:World)(hs:s.size≤maxLen) :
  Calls Tryz.prog 7 #[.string s] w fun e w'=>∃a b,e=.returned (.tuple #[.int .i64 a,.int .i64 b])∧ChkIs s a b∧Below w.heap.size w w':=by
 go_enter Tryz.func7,Tryz.ntmps7
 go_wp2_with fail
 refine(read_any s w hs).mono ?_;intro e w1 hout;obtain⟨hb,v,a,b,rfl,hc,_⟩:=hout.says;clear hout;go_wp2
 go_ret2
 exact⟨a,b,rfl,hc,hb⟩
set_option maxHeartbeats 400000 in
theorem num_any(a:Int)(w:World):Calls Tryz.prog 9 #[.int .i64 a] w fun e w'=>e=.returned (.int .i64 a)∧w'=w:=by
 go_enter Tryz.func9,Tryz.ntmps9
 go_wp2;go_ret;exact⟨rfl,rfl⟩
set_option maxHeartbeats 800000 in
set_option maxRecDepth 100000 in
theorem plays_check(bk:Nat)(s t:ByteArray)(l:Value)(_hl:l.oneCell'=true)(w:World)(hs:s.size≤maxLen) :
  Calls Tryz.prog 5 #[.pointer (some ⟨bk,0,none⟩),.agg #[.int .i64 1,.string s,.string t,l]] w fun e w'=>e=.returned (.bool true)∧Below w.heap.size w w':=by
 have B1:Hid (∀o,Below w.heap.size w (w.alloc o)):=fun o=>(Below.refl _ _).alloc (Nat.le_refl _) o
 go_enter Tryz.func5,Tryz.ntmps5
 go_wp2_with fail
 refine(check_any s _ hs).mono ?_;rintro e w1 ⟨a,b,rfl,hc,hb⟩;have hcell:=(hb.cell (p:=⟨w.heap.size,1,none⟩) (by simp));have HC:Hid (ChkIs s a b):=hc;have HB:Hid (Below w.heap.size w w1):=(B1.out _).trans (hb.mono (by simp));clear hc hb
 go_wp2_with fail
 refine(refCheck_any s _ hs).mono ?_;rintro e w2 ⟨a',b',rfl,hc',rfl⟩;obtain⟨e1,e2⟩:=HC.out.unique hc';subst e1 e2;clear hc'
 go_wp2_with fail
 refine(num_any a _).mono ?_;rintro e w3 ⟨rfl,rfl⟩;go_wp2;go_ret;exact⟨rfl,HB.out⟩
structure Script(W:World)(b off len:Nat)(K:Nat→Int)(S P:Nat→ByteArray)(L:Nat→Value):Prop where
 lt:0<len→b<W.heap.size
 c0:∀j,j<len→W.cell? ⟨b,off+j*4,none⟩=some (.int .i64 (K j))
 c1:∀j,j<len→W.cell? ⟨b,off+j*4+1,none⟩=some (.string (S j))
 c2:∀j,j<len→W.cell? ⟨b,off+j*4+2,none⟩=some (.string (P j))
 c3:∀j,j<len→W.cell? ⟨b,off+j*4+3,none⟩=some (L j)
 s0:∀j,j<len→(S j).size≤maxLen
 s1:∀j,j<len→(P j).size≤maxLen
 s2:∀j,j<len→∃a n c,L j=.slice a n c
end Go.Proofs.YtdgkpkdinfklaabGreat
