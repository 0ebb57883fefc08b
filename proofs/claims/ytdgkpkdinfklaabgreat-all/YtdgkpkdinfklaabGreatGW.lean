import Derived.Test.YtdgkpkdinfklaabGreatGG
namespace Go.Proofs.YtdgkpkdinfklaabGreat
open Go.RowKit
theorem accsV_get(l:List MK)(i:Nat)(m:MK)(h:l[i]?=some m)(j:Nat)(hj:j<5):(accsV l)[i*5+j]?=(accV m)[j]?:=by
 induction l generalizing i with
 | nil=>simp at h
 | cons y r ih=>
  have e:accsV (y::r)=accV y++accsV r:=by simp[accsV]
  have hl:(accV y).length=5:=rfl;cases i with
  | zero=>
   simp at h;subst h;rw[e,List.getElem?_append_left (by omega)];simp
  | succ i=>
   have:=ih i (by simpa using h);rw[e,List.getElem?_append_right (by omega),←this]
   congr 1
   omega
theorem accAt{w:World}{B g n cm:Nat}{l:List MK}(h:w.ownsRow B 47 5 (.slice (some ⟨g,0,none⟩) n cm) n (accsV l))(hn:n=l.length)(i:Nat)(m:MK)(hx:l[i]?=some m)(j:Nat)(hj:j<5)(v:Value)(hv:(accV m)[j]?=some v) :
  w.cell? ⟨g,i*5+j,none⟩=some v:=by
 have hi:i<l.length:=(List.getElem?_eq_some_iff.1 hx).1;exact(h.cellAt (i*5+j) (by omega)).trans ((accsV_get l i m hx j hj).trans hv)
set_option maxHeartbeats 1600000 in
set_option maxRecDepth 100000 in
theorem same_any(Ba Bb:Nat)(xa xb:Option Addr)(ca cb n:Nat)(l:List MK)(w:World)(hn:n=l.length)(hlen:n≤1000)(ha:w.ownsRow Ba 47 5 (.slice xa n ca) n (accsV l))(hb:w.ownsRow Bb 47 5 (.slice xb n cb) n (accsV l)) :
  Calls Tryz.prog 26 #[.slice xa n ca,.slice xb n cb] w fun e w'=>e=.returned (.bool true)∧∃k,w'=w.drewN k:=by
 have HA:Hid (w.ownsRow Ba 47 5 (.slice xa n ca) n (accsV l)):=ha;have HB:Hid (w.ownsRow Bb 47 5 (.slice xb n cb) n (accsV l)):=hb;have HN:Hid (n=l.length):=hn;clear ha hb hn
 go_enter Tryz.func26,Tryz.ntmps26
 go_wp2
 go_loopw [5] (fun i wr=>∃k q:Nat,k≤n∧i=.int .i64 k∧wr=w.drewN q) (fun i _=>n-(intOf i).toNat)
 case atStart=>exact⟨0,0,Nat.zero_le _,rfl,rfl⟩
 case round=>
  obtain⟨k,q,hk,rfl,rfl⟩:=hrel
  by_cases hlt:k<n
  ·obtain⟨m,hm⟩:∃m,l[k]?=some m:=⟨l[k]'(by rw[←HN.out];exact hlt),List.getElem?_eq_getElem _⟩;obtain⟨ga,cap',hva,_,_⟩:=HA.out.form (by omega);obtain⟨gb,cap'',hvb,_,_⟩:=HB.out.form (by omega);cases hva;cases hvb;have p0:=accAt HA.out HN.out k m hm 0 (by decide) _ rfl;have p1:=accAt HA.out HN.out k m hm 1 (by decide) _ rfl;have p2:=accAt HA.out HN.out k m hm 2 (by decide) _ rfl;have p3:=accAt HA.out HN.out k m hm 3 (by decide) _ rfl;have p4:=accAt HA.out HN.out k m hm 4 (by decide) _ rfl;have q0:=accAt HB.out HN.out k m hm 0 (by decide) _ rfl;have q1:=accAt HB.out HN.out k m hm 1 (by decide) _ rfl;have q2:=accAt HB.out HN.out k m hm 2 (by decide) _ rfl;have q3:=accAt HB.out HN.out k m hm 3 (by decide) _ rfl;have q4:=accAt HB.out HN.out k m hm 4 (by decide) _ rfl;rw[Nat.add_zero]at p0 q0;clear hm;obtain⟨str,hstr⟩:∃str:ByteArray,str=⟨(nm (hOf m) 5).toArray⟩:=⟨_,rfl⟩;rw[←hstr]at p4 q4;clear hstr;go_wp2
   go_quiet (fail)
   go_wp2;exact⟨⟨k+1,_,by omega,by go_num,rfl⟩,by simp[intOf];omega⟩
  ·go_wp2;go_ret;exact⟨rfl,_,rfl⟩
def bmV(k:Nat):List Value:=[.int .i64 (-1),.int .i64 k,.int .i64 0,.bool false,.string ⟨#[110,111,110,101]⟩]
def bmsV(k c:Nat):List Value:=(List.replicate c (bmV k)).flatten
theorem bmsV_get(k c i j:Nat)(hi:i<c)(hj:j<5):(bmsV k c)[i*5+j]?=(bmV k)[j]?:=by
 induction c generalizing i with
 | zero=>omega
 | succ c ih=>
  have e:bmsV k (c+1)=bmV k++bmsV k c:=by simp[bmsV,List.replicate_succ]
  have hl:(bmV k).length=5:=rfl;cases i with
  | zero=>rw[e,List.getElem?_append_left (by omega)];simp
  | succ i=>
   have:=ih i (by omega);rw[e,List.getElem?_append_right (by omega),←this]
   congr 1
   omega
theorem bmsV_length(k c:Nat):(bmsV k c).length=c*5:=by
 induction c with
 | zero=>simp[bmsV]
 | succ c ih=>
  have e:bmsV k (c+1)=bmV k++bmsV k c:=by simp[bmsV,List.replicate_succ]
  rw[e,List.length_append,ih];show 5+c*5=_;omega
theorem row_cap{w:World}{B e s n:Nat}{v:Value}{xs:List Value}(h:w.ownsRow B e s v n xs):n≤maxLen:=by
 rcases h.2 with⟨_,hn⟩|⟨g,cap,cur,hv,_,_,h1,h2,_⟩
 ·rw[hn];exact Nat.zero_le _
 ·omega
theorem Tryz.infoAccs:(Tryz.prog.info? 45).map (fun i=>(i.zero,i.size,i.bytes))=some (some (.slice none 0 0),1,24):=by kernel_rfl
def Filled(xs:List Value)(N k:Nat):Prop:=∀i j,i<k→j<5→xs[i*5+j]?=(bmV N)[j]?
theorem filled_all{xs:List Value}{N c:Nat}(h:Filled xs N c)(hl:xs.length=c*5):xs=bmsV N c:=by
 apply List.ext_getElem?;intro q
 by_cases hq:q<c*5
 ·have e:q=(q / 5)*5+q%5:=by omega
  rw[e,h (q / 5) (q%5) (by omega) (by omega),bmsV_get N c (q / 5) (q%5) (by omega) (by omega)]
 ·rw[List.getElem?_eq_none (by omega),List.getElem?_eq_none (by rw[bmsV_length];omega)]
theorem filled_step{xs:List Value}{N k c:Nat}(h:Filled xs N k)(hl:xs.length=c*5)(hk:k<c) :
  Filled (((((xs.set (k*5) (.int .i64 (-1))).set (k*5+1) (.int .i64 N)).set (k*5+2) (.int .i64 0)).set (k*5+3) (.bool false)).set (k*5+4) (.string ⟨#[110,111,110,101]⟩)) N (k+1):=by
 intro i j hi hj
 by_cases e:i=k
 ·subst e;have h6:j=0∨j=1∨j=2∨j=3∨j=4:=by omega
  rcases h6 with rfl|rfl|rfl|rfl|rfl
  all_goals simp[List.getElem?_set,bmV];omega
 ·rw[←h i j (by omega) hj];simp only[List.getElem?_set];rw[if_neg (by omega),if_neg (by omega),if_neg (by omega),if_neg (by omega),if_neg (by omega)]
theorem Below.trans_grown{b:Nat}{w w':World}{g:Nat}(hg:w.grownBy w' (some g))(hb:b≤g)(hs:b≤w.heap.size):Below b w w':=
 (Below.refl b w).grown hg hs (fun k hk=>by cases hk;exact hb)
theorem grown_twice{a b c:World}{g:Nat}(h:a.grownBy b (some g))(k:b.grownBy c (some g)):a.grownBy c (some g):=
 ⟨k.os.trans h.os,k.tape.trans h.tape,k.output.trans h.output,Nat.le_trans h.size k.size,fun i hi hne=>(k.block i (by have:=h.size;omega) hne).trans (h.block i hi hne)⟩
theorem row_stored{w:World}{B g c:Nat}{xs:List Value}(k:Nat)(v0 v1 v2 v3 v4:Value)(h:w.ownsRow B 47 5 (.slice (some ⟨g,0,none⟩) c c) c xs) :
  (((((w.setCell ⟨g,k,none⟩ v0).setCell ⟨g,k+1,none⟩ v1).setCell ⟨g,k+2,none⟩ v2).setCell ⟨g,k+3,none⟩ v3).setCell ⟨g,k+4,none⟩ v4).ownsRow B 47 5 (.slice (some ⟨g,0,none⟩) c c) c (((((xs.set k v0).set (k+1) v1).set (k+2) v2).set (k+3) v3).set (k+4) v4) ∧
  w.grownBy (((((w.setCell ⟨g,k,none⟩ v0).setCell ⟨g,k+1,none⟩ v1).setCell ⟨g,k+2,none⟩ v2).setCell ⟨g,k+3,none⟩ v3).setCell ⟨g,k+4,none⟩ v4) (some g):=by
 obtain⟨a0,b0⟩:=h.stored k v0;obtain⟨a1,b1⟩:=a0.stored (k+1) v1;obtain⟨a2,b2⟩:=a1.stored (k+2) v2;obtain⟨a3,b3⟩:=a2.stored (k+3) v3;obtain⟨a4,b4⟩:=a3.stored (k+4) v4;exact⟨a4,grown_twice (grown_twice (grown_twice (grown_twice b0 b1) b2) b3) b4⟩
theorem row_full{w:World}{B e size g n cap:Nat}{xs:List Value}(h:w.ownsRow B e size (.slice (some ⟨g,0,none⟩) n cap) n xs):∃ys:List Value,w.ownsRow B e size (.slice (some ⟨g,0,none⟩) cap cap) cap ys∧n≤cap:=by
 rcases h.2 with⟨h0,_⟩|⟨g',cap',cur,hv,hg,hh,hn,hc,hs,_⟩
 ·cases h0
 ·cases hv;exact⟨cur.toList,⟨by simpa using hs,.inr ⟨g,cap,cur,rfl,hg,hh,Nat.le_refl _,hc,hs,List.take_of_length_le (by simp[hs])⟩⟩,hn⟩
theorem ListIs.both{w w1 w2 w3:World}{s:ByteArray}{v v':Value}{a a':Int}(h:ListIs w w1 s v a)(h':ListIs w2 w3 s v' a') :
  a=a'∧∃(l:List MK) (x x':Option Addr) (n c c':Nat),n=l.length∧n≤1000∧v=.slice x n c∧v'=.slice x' n c'∧w1.ownsRow w.heap.size 47 5 (.slice x n c) n (accsV l)∧w3.ownsRow w2.heap.size 47 5 (.slice x' n c') n (accsV l):=by
 obtain⟨b,hc,h⟩:=h;obtain⟨b',hc',h'⟩:=h';obtain⟨rfl,rfl⟩:=hc.unique hc';refine⟨rfl,?_⟩;rcases h with⟨h0,rfl⟩|⟨h0,hz,mks,x,c,hacc,hlen,rfl,hown⟩
 ·rcases h' with⟨_,rfl⟩|⟨h1,_⟩
  ·exact⟨[],none,none,0,0,0,rfl,by decide,rfl,rfl,World.ownsRow_nil _ _ _ _,World.ownsRow_nil _ _ _ _⟩
  ·exact absurd h1 h0
 ·rcases h' with⟨h1,_⟩|⟨_,_,mks',x',c',hacc',_,rfl,hown'⟩
  ·exact absurd h0 h1
  ·have:=acc_unique hacc hacc';subst this;refine⟨accL mks,x,x',_,c,c',rfl,Nat.le_trans (List.length_filter_le _ _) hlen,rfl,rfl,hown,hown'⟩
end Go.Proofs.YtdgkpkdinfklaabGreat
