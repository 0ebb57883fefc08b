import Derived.Test.YtdgkpkdinfklaabGreatGK
namespace Go.Proofs.YtdgkpkdinfklaabGreat
open Go.RowKit
theorem less3{n:Nat}(h:n<3):n=0∨n=1∨n=2:=by omega
theorem gb_four{g:GB}(o:Nat)(ho:o=1∨o=5):∀i,i<4→∃v,(gbV g)[o+i]?=some v:=by
 intro i hi;rcases ho with rfl|rfl<;>rcases four hi with rfl|rfl|rfl|rfl<;>exact⟨_,rfl⟩
set_option maxHeartbeats 6400000 in
set_option maxRecDepth 100000 in
theorem get_0(b k:Nat)(vs vt vp:Value)(g0 g1 g2:GB)(l0 l1 l2 l3 l4:LK)(r:Bool)(t:TH)(w:World)(hm:Blk w b (mV vs vt vp [g0,g1,g2] [l0,l1,l2,l3,l4] r) 128)(ht:Blk w k (thV t) 153)(hbk:b≠k)(h1:1≤t.name)(h4:t.name≤4) :
  Calls Tryz.prog 110 #[.pointer (some ⟨b,0,none⟩),.pointer (some ⟨k,0,none⟩),.int .i64 0] w fun e w'=>e=.returned (.tuple #[]) ∧
   Blk w' b (mV vs vt vp [noteG g0 t,g1,g2] [l0,l1,l2,l3,l4] (r||t.kn.misses g0.puts)) 128∧Blk w' k (thV { t with reg:=g0.val }) 153∧Chg [b,k] w w':=by
 have hblt:=hm.lt;have hklt:=ht.lt;have hbw:b≠w.heap.size:=by omega
 have hkw:k≠w.heap.size:=by omega
 have HM:Hid (Blk (w.alloc (.cells #[.int .i64 g0.val,.int .i64 g0.gets.c0,.int .i64 g0.gets.c1,.int .i64 g0.gets.c2,.int .i64 g0.gets.c3,.int .i64 g0.puts.c0,.int .i64 g0.puts.c1,.int .i64 g0.puts.c2,.int .i64 g0.puts.c3] 122)) b (mV vs vt vp [g0,g1,g2] [l0,l1,l2,l3,l4] r) 128):=hm.alloc _;have HT:Hid (Blk (w.alloc (.cells #[.int .i64 g0.val,.int .i64 g0.gets.c0,.int .i64 g0.gets.c1,.int .i64 g0.gets.c2,.int .i64 g0.gets.c3,.int .i64 g0.puts.c0,.int .i64 g0.puts.c1,.int .i64 g0.puts.c2,.int .i64 g0.puts.c3] 122)) k (thV t) 153):=ht.alloc _;have HG:Hid (Blk (w.alloc (.cells #[.int .i64 g0.val,.int .i64 g0.gets.c0,.int .i64 g0.gets.c1,.int .i64 g0.gets.c2,.int .i64 g0.gets.c3,.int .i64 g0.puts.c0,.int .i64 g0.puts.c1,.int .i64 g0.puts.c2,.int .i64 g0.puts.c3] 122)) w.heap.size (gbV g0) 122):=Blk.new (l:=gbV g0);have HC:Hid (Chg [b,k] w (w.alloc (.cells #[.int .i64 g0.val,.int .i64 g0.gets.c0,.int .i64 g0.gets.c1,.int .i64 g0.gets.c2,.int .i64 g0.gets.c3,.int .i64 g0.puts.c0,.int .i64 g0.puts.c1,.int .i64 g0.puts.c2,.int .i64 g0.puts.c3] 122))):=(Chg.refl _ w).alloc _;have HIX:Hid (t.ix<4):=ix_lt h1 h4;have q0:=hm.cell 2 _ rfl;have q1:=hm.cell 3 _ rfl;have q2:=hm.cell 4 _ rfl;have q3:=hm.cell 5 _ rfl;have q4:=hm.cell 6 _ rfl;have q5:=hm.cell 7 _ rfl;have q6:=hm.cell 8 _ rfl;have q7:=hm.cell 9 _ rfl;have q8:=hm.cell 10 _ rfl;have p5:=HG.out.cell 5 _ rfl;have p6:=HG.out.cell 6 _ rfl;have p7:=HG.out.cell 7 _ rfl;have p8:=HG.out.cell 8 _ rfl;have MI:=fun w' h=>misses_any k t g0.puts w' h
 obtain⟨ms,hms⟩:∃ms,ms=t.kn.misses g0.puts:=⟨_,rfl⟩;simp only[←hms]at MI ⊢;have MI:Hid (∀w':World,Blk w' k (thV t) 153→Calls Tryz.prog 123 #[.pointer (some ⟨k,3,none⟩),.agg #[.int .i64 g0.puts.c0,.int .i64 g0.puts.c1,.int .i64 g0.puts.c2,.int .i64 g0.puts.c3]] w' fun e w''=>e=.returned (.bool ms)∧Chg [] w' w''):=MI;clear hm ht hms
 go_enter Tryz.func110,Tryz.ntmps110
 go_wp2_with fail
 go_region_with (
  go_at_call 123
  refine(MI.out _ (by first|exact HT.out.drew|exact HT.out)).mono ?_
  rintro e w1 ⟨rfl,c1⟩)
 all_goals
  have M1:Hid (Blk w1 b (mV vs vt vp [g0,g1,g2] [l0,l1,l2,l3,l4] r) 128):=by first|exact HM.out.drew.chg c1 (by simp)|exact HM.out.chg c1 (by simp)
  have T1:Hid (Blk w1 k (thV t) 153):=by first|exact HT.out.drew.chg c1 (by simp)|exact HT.out.chg c1 (by simp)
  have G1:Hid (Blk w1 w.heap.size (gbV g0) 122):=by first|exact HG.out.drew.chg c1 (by simp)|exact HG.out.chg c1 (by simp)
  have C1:Hid (Chg [b,k] w w1):=by first|exact HC.out.drew.trans' c1 (by simp)|exact HC.out.trans' c1 (by simp)
  have r55:=M1.out.cell 55 _ rfl;have z55:=M1.out.fz 55;clear c1 q0 q1 q2 q3 q4 q5 q6 q7 q8 p5 p6 p7 p8 MI;cases ms with
  | true=>
   have M2:Hid (Blk (w1.setCell ⟨b,55,none⟩ (.bool true)) b (mV vs vt vp [g0,g1,g2] [l0,l1,l2,l3,l4] true) 128):=M1.out.set 55 _;have T2:Hid (Blk (w1.setCell ⟨b,55,none⟩ (.bool true)) k (thV t) 153):=T1.out.other (by simp;omega) _;have G2:Hid (Blk (w1.setCell ⟨b,55,none⟩ (.bool true)) w.heap.size (gbV g0) 122):=G1.out.other (by simp;omega) _;have C2:Hid (Chg [b,k] w (w1.setCell ⟨b,55,none⟩ (.bool true))):=C1.out.set (a:=⟨b,55,none⟩) (.inl (by simp)) _;clear M1 T1 G1 C1
   go_wp2_with fail
   refine(note_any k w.heap.size 1 t (gbV g0) _ T2.out G2.out (by omega) h1 h4 (gb_four 1 (.inl rfl))).mono ?_;rintro e w3 ⟨rfl,g3,c3⟩;have G3:Hid (Blk w3 w.heap.size (gbV (noteG g0 t)) 122):=by
    rw[gbV_gets _ _ _ HIX.out]at g3;exact g3
   have M3:Hid (Blk w3 b (mV vs vt vp [g0,g1,g2] [l0,l1,l2,l3,l4] true) 128):=M2.out.chg c3 (by simp;omega);have T3:Hid (Blk w3 k (thV t) 153):=T2.out.chg c3 (by simp;omega);have C3:Hid (Chg [b,k] w w3):=C2.out.trans' c3 (by simp);clear g3 c3 M2 T2 G2 C2 r55 z55;have s0:=G3.out.cell 0 _ rfl;have s1:=G3.out.cell 1 _ rfl;have s2:=G3.out.cell 2 _ rfl;have s3:=G3.out.cell 3 _ rfl;have s4:=G3.out.cell 4 _ rfl;have s5:=G3.out.cell 5 _ rfl;have s6:=G3.out.cell 6 _ rfl;have s7:=G3.out.cell 7 _ rfl;have s8:=G3.out.cell 8 _ rfl;have m0:=M3.out.cell 2 _ rfl;have z0:=M3.out.fz 2;have m1:=M3.out.cell 3 _ rfl;have z1:=M3.out.fz 3;have m2:=M3.out.cell 4 _ rfl;have z2:=M3.out.fz 4;have m3:=M3.out.cell 5 _ rfl;have z3:=M3.out.fz 5;have m4:=M3.out.cell 6 _ rfl;have z4:=M3.out.fz 6;have m5:=M3.out.cell 7 _ rfl;have z5:=M3.out.fz 7;have m6:=M3.out.cell 8 _ rfl;have z6:=M3.out.fz 8;have m7:=M3.out.cell 9 _ rfl;have z7:=M3.out.fz 9;have m8:=M3.out.cell 10 _ rfl;have z8:=M3.out.fz 10;have t2:=T3.out.cell 2 _ rfl;have y2:=T3.out.fz 2;simp only[noteG]at s0 s1 s2 s3 s4 s5 s6 s7 s8;go_wp2
   go_region
   all_goals
    go_wp2;go_end0;refine⟨rfl,?_,((((((((((T3.out.set 2 _).other (a:=⟨b,2,none⟩) (by simp;omega) _).other (a:=⟨b,3,none⟩) (by simp;omega) _).other (a:=⟨b,4,none⟩) (by simp;omega) _).other (a:=⟨b,5,none⟩) (by simp;omega) _).other (a:=⟨b,6,none⟩) (by simp;omega) _).other (a:=⟨b,7,none⟩) (by simp;omega) _).other (a:=⟨b,8,none⟩) (by simp;omega) _).other (a:=⟨b,9,none⟩) (by simp;omega) _).other (a:=⟨b,10,none⟩) (by simp;omega) _).drew,((((((((((C3.out.set (a:=⟨k,2,none⟩) (.inl (by simp)) _).set (a:=⟨b,2,none⟩) (.inl (by simp)) _).set (a:=⟨b,3,none⟩) (.inl (by simp)) _).set (a:=⟨b,4,none⟩) (.inl (by simp)) _).set (a:=⟨b,5,none⟩) (.inl (by simp)) _).set (a:=⟨b,6,none⟩) (.inl (by simp)) _).set (a:=⟨b,7,none⟩) (.inl (by simp)) _).set (a:=⟨b,8,none⟩) (.inl (by simp)) _).set (a:=⟨b,9,none⟩) (.inl (by simp)) _).set (a:=⟨b,10,none⟩) (.inl (by simp)) _).drew⟩
    first
     | (rw[Bool.or_true];exact((((((((((M3.out.other (a:=⟨k,2,none⟩) (by simp;omega) _).set 2 _).set 3 _).set 4 _).set 5 _).set 6 _).set 7 _).set 8 _).set 9 _).set 10 _).drew)
     | (rw[Bool.or_false];exact((((((((((M3.out.other (a:=⟨k,2,none⟩) (by simp;omega) _).set 2 _).set 3 _).set 4 _).set 5 _).set 6 _).set 7 _).set 8 _).set 9 _).set 10 _).drew)
  | false=>
   go_wp2_with fail
   refine(note_any k w.heap.size 1 t (gbV g0) _ T1.out G1.out (by omega) h1 h4 (gb_four 1 (.inl rfl))).mono ?_;rintro e w3 ⟨rfl,g3,c3⟩;have G3:Hid (Blk w3 w.heap.size (gbV (noteG g0 t)) 122):=by
    rw[gbV_gets _ _ _ HIX.out]at g3;exact g3
   have M3:Hid (Blk w3 b (mV vs vt vp [g0,g1,g2] [l0,l1,l2,l3,l4] r) 128):=M1.out.chg c3 (by simp;omega);have T3:Hid (Blk w3 k (thV t) 153):=T1.out.chg c3 (by simp;omega);have C3:Hid (Chg [b,k] w w3):=C1.out.trans' c3 (by simp);clear g3 c3 M1 T1 G1 C1 r55 z55;have s0:=G3.out.cell 0 _ rfl;have s1:=G3.out.cell 1 _ rfl;have s2:=G3.out.cell 2 _ rfl;have s3:=G3.out.cell 3 _ rfl;have s4:=G3.out.cell 4 _ rfl;have s5:=G3.out.cell 5 _ rfl;have s6:=G3.out.cell 6 _ rfl;have s7:=G3.out.cell 7 _ rfl;have s8:=G3.out.cell 8 _ rfl;have m0:=M3.out.cell 2 _ rfl;have z0:=M3.out.fz 2;have m1:=M3.out.cell 3 _ rfl;have z1:=M3.out.fz 3;have m2:=M3.out.cell 4 _ rfl;have z2:=M3.out.fz 4;have m3:=M3.out.cell 5 _ rfl;have z3:=M3.out.fz 5;have m4:=M3.out.cell 6 _ rfl;have z4:=M3.out.fz 6;have m5:=M3.out.cell 7 _ rfl;have z5:=M3.out.fz 7;have m6:=M3.out.cell 8 _ rfl;have z6:=M3.out.fz 8;have m7:=M3.out.cell 9 _ rfl;have z7:=M3.out.fz 9;have m8:=M3.out.cell 10 _ rfl;have z8:=M3.out.fz 10;have t2:=T3.out.cell 2 _ rfl;have y2:=T3.out.fz 2;simp only[noteG]at s0 s1 s2 s3 s4 s5 s6 s7 s8;go_wp2
   go_region
   all_goals
    go_wp2;go_end0;refine⟨rfl,?_,((((((((((T3.out.set 2 _).other (a:=⟨b,2,none⟩) (by simp;omega) _).other (a:=⟨b,3,none⟩) (by simp;omega) _).other (a:=⟨b,4,none⟩) (by simp;omega) _).other (a:=⟨b,5,none⟩) (by simp;omega) _).other (a:=⟨b,6,none⟩) (by simp;omega) _).other (a:=⟨b,7,none⟩) (by simp;omega) _).other (a:=⟨b,8,none⟩) (by simp;omega) _).other (a:=⟨b,9,none⟩) (by simp;omega) _).other (a:=⟨b,10,none⟩) (by simp;omega) _).drew,((((((((((C3.out.set (a:=⟨k,2,none⟩) (.inl (by simp)) _).set (a:=⟨b,2,none⟩) (.inl (by simp)) _).set (a:=⟨b,3,none⟩) (.inl (by simp)) _).set (a:=⟨b,4,none⟩) (.inl (by simp)) _).set (a:=⟨b,5,none⟩) (.inl (by simp)) _).set (a:=⟨b,6,none⟩) (.inl (by simp)) _).set (a:=⟨b,7,none⟩) (.inl (by simp)) _).set (a:=⟨b,8,none⟩) (.inl (by simp)) _).set (a:=⟨b,9,none⟩) (.inl (by simp)) _).set (a:=⟨b,10,none⟩) (.inl (by simp)) _).drew⟩
    first
     | (rw[Bool.or_true];exact((((((((((M3.out.other (a:=⟨k,2,none⟩) (by simp;omega) _).set 2 _).set 3 _).set 4 _).set 5 _).set 6 _).set 7 _).set 8 _).set 9 _).set 10 _).drew)
     | (rw[Bool.or_false];exact((((((((((M3.out.other (a:=⟨k,2,none⟩) (by simp;omega) _).set 2 _).set 3 _).set 4 _).set 5 _).set 6 _).set 7 _).set 8 _).set 9 _).set 10 _).drew)
set_option maxHeartbeats 6400000 in
set_option maxRecDepth 100000 in
theorem get_1(b k:Nat)(vs vt vp:Value)(g0 g1 g2:GB)(l0 l1 l2 l3 l4:LK)(r:Bool)(t:TH)(w:World)(hm:Blk w b (mV vs vt vp [g0,g1,g2] [l0,l1,l2,l3,l4] r) 128)(ht:Blk w k (thV t) 153)(hbk:b≠k)(h1:1≤t.name)(h4:t.name≤4) :
  Calls Tryz.prog 110 #[.pointer (some ⟨b,0,none⟩),.pointer (some ⟨k,0,none⟩),.int .i64 1] w fun e w'=>e=.returned (.tuple #[]) ∧
   Blk w' b (mV vs vt vp [g0,noteG g1 t,g2] [l0,l1,l2,l3,l4] (r||t.kn.misses g1.puts)) 128∧Blk w' k (thV { t with reg:=g1.val }) 153∧Chg [b,k] w w':=by
 have hblt:=hm.lt;have hklt:=ht.lt;have hbw:b≠w.heap.size:=by omega
 have hkw:k≠w.heap.size:=by omega
 have HM:Hid (Blk (w.alloc (.cells #[.int .i64 g1.val,.int .i64 g1.gets.c0,.int .i64 g1.gets.c1,.int .i64 g1.gets.c2,.int .i64 g1.gets.c3,.int .i64 g1.puts.c0,.int .i64 g1.puts.c1,.int .i64 g1.puts.c2,.int .i64 g1.puts.c3] 122)) b (mV vs vt vp [g0,g1,g2] [l0,l1,l2,l3,l4] r) 128):=hm.alloc _;have HT:Hid (Blk (w.alloc (.cells #[.int .i64 g1.val,.int .i64 g1.gets.c0,.int .i64 g1.gets.c1,.int .i64 g1.gets.c2,.int .i64 g1.gets.c3,.int .i64 g1.puts.c0,.int .i64 g1.puts.c1,.int .i64 g1.puts.c2,.int .i64 g1.puts.c3] 122)) k (thV t) 153):=ht.alloc _;have HG:Hid (Blk (w.alloc (.cells #[.int .i64 g1.val,.int .i64 g1.gets.c0,.int .i64 g1.gets.c1,.int .i64 g1.gets.c2,.int .i64 g1.gets.c3,.int .i64 g1.puts.c0,.int .i64 g1.puts.c1,.int .i64 g1.puts.c2,.int .i64 g1.puts.c3] 122)) w.heap.size (gbV g1) 122):=Blk.new (l:=gbV g1);have HC:Hid (Chg [b,k] w (w.alloc (.cells #[.int .i64 g1.val,.int .i64 g1.gets.c0,.int .i64 g1.gets.c1,.int .i64 g1.gets.c2,.int .i64 g1.gets.c3,.int .i64 g1.puts.c0,.int .i64 g1.puts.c1,.int .i64 g1.puts.c2,.int .i64 g1.puts.c3] 122))):=(Chg.refl _ w).alloc _;have HIX:Hid (t.ix<4):=ix_lt h1 h4;have q0:=hm.cell 11 _ rfl;have q1:=hm.cell 12 _ rfl;have q2:=hm.cell 13 _ rfl;have q3:=hm.cell 14 _ rfl;have q4:=hm.cell 15 _ rfl;have q5:=hm.cell 16 _ rfl;have q6:=hm.cell 17 _ rfl;have q7:=hm.cell 18 _ rfl;have q8:=hm.cell 19 _ rfl;have p5:=HG.out.cell 5 _ rfl;have p6:=HG.out.cell 6 _ rfl;have p7:=HG.out.cell 7 _ rfl;have p8:=HG.out.cell 8 _ rfl;have MI:=fun w' h=>misses_any k t g1.puts w' h
 obtain⟨ms,hms⟩:∃ms,ms=t.kn.misses g1.puts:=⟨_,rfl⟩;simp only[←hms]at MI ⊢;have MI:Hid (∀w':World,Blk w' k (thV t) 153→Calls Tryz.prog 123 #[.pointer (some ⟨k,3,none⟩),.agg #[.int .i64 g1.puts.c0,.int .i64 g1.puts.c1,.int .i64 g1.puts.c2,.int .i64 g1.puts.c3]] w' fun e w''=>e=.returned (.bool ms)∧Chg [] w' w''):=MI;clear hm ht hms
 go_enter Tryz.func110,Tryz.ntmps110
 go_wp2_with fail
 go_region_with (
  go_at_call 123
  refine(MI.out _ (by first|exact HT.out.drew|exact HT.out)).mono ?_
  rintro e w1 ⟨rfl,c1⟩)
 all_goals
  have M1:Hid (Blk w1 b (mV vs vt vp [g0,g1,g2] [l0,l1,l2,l3,l4] r) 128):=by first|exact HM.out.drew.chg c1 (by simp)|exact HM.out.chg c1 (by simp)
  have T1:Hid (Blk w1 k (thV t) 153):=by first|exact HT.out.drew.chg c1 (by simp)|exact HT.out.chg c1 (by simp)
  have G1:Hid (Blk w1 w.heap.size (gbV g1) 122):=by first|exact HG.out.drew.chg c1 (by simp)|exact HG.out.chg c1 (by simp)
  have C1:Hid (Chg [b,k] w w1):=by first|exact HC.out.drew.trans' c1 (by simp)|exact HC.out.trans' c1 (by simp)
  have r55:=M1.out.cell 55 _ rfl;have z55:=M1.out.fz 55;clear c1 q0 q1 q2 q3 q4 q5 q6 q7 q8 p5 p6 p7 p8 MI;cases ms with
  | true=>
   have M2:Hid (Blk (w1.setCell ⟨b,55,none⟩ (.bool true)) b (mV vs vt vp [g0,g1,g2] [l0,l1,l2,l3,l4] true) 128):=M1.out.set 55 _;have T2:Hid (Blk (w1.setCell ⟨b,55,none⟩ (.bool true)) k (thV t) 153):=T1.out.other (by simp;omega) _;have G2:Hid (Blk (w1.setCell ⟨b,55,none⟩ (.bool true)) w.heap.size (gbV g1) 122):=G1.out.other (by simp;omega) _;have C2:Hid (Chg [b,k] w (w1.setCell ⟨b,55,none⟩ (.bool true))):=C1.out.set (a:=⟨b,55,none⟩) (.inl (by simp)) _;clear M1 T1 G1 C1
   go_wp2_with fail
   refine(note_any k w.heap.size 1 t (gbV g1) _ T2.out G2.out (by omega) h1 h4 (gb_four 1 (.inl rfl))).mono ?_;rintro e w3 ⟨rfl,g3,c3⟩;have G3:Hid (Blk w3 w.heap.size (gbV (noteG g1 t)) 122):=by
    rw[gbV_gets _ _ _ HIX.out]at g3;exact g3
   have M3:Hid (Blk w3 b (mV vs vt vp [g0,g1,g2] [l0,l1,l2,l3,l4] true) 128):=M2.out.chg c3 (by simp;omega);have T3:Hid (Blk w3 k (thV t) 153):=T2.out.chg c3 (by simp;omega);have C3:Hid (Chg [b,k] w w3):=C2.out.trans' c3 (by simp);clear g3 c3 M2 T2 G2 C2 r55 z55;have s0:=G3.out.cell 0 _ rfl;have s1:=G3.out.cell 1 _ rfl;have s2:=G3.out.cell 2 _ rfl;have s3:=G3.out.cell 3 _ rfl;have s4:=G3.out.cell 4 _ rfl;have s5:=G3.out.cell 5 _ rfl;have s6:=G3.out.cell 6 _ rfl;have s7:=G3.out.cell 7 _ rfl;have s8:=G3.out.cell 8 _ rfl;have m0:=M3.out.cell 11 _ rfl;have z0:=M3.out.fz 11;have m1:=M3.out.cell 12 _ rfl;have z1:=M3.out.fz 12;have m2:=M3.out.cell 13 _ rfl;have z2:=M3.out.fz 13;have m3:=M3.out.cell 14 _ rfl;have z3:=M3.out.fz 14;have m4:=M3.out.cell 15 _ rfl;have z4:=M3.out.fz 15;have m5:=M3.out.cell 16 _ rfl;have z5:=M3.out.fz 16;have m6:=M3.out.cell 17 _ rfl;have z6:=M3.out.fz 17;have m7:=M3.out.cell 18 _ rfl;have z7:=M3.out.fz 18;have m8:=M3.out.cell 19 _ rfl;have z8:=M3.out.fz 19;have t2:=T3.out.cell 2 _ rfl;have y2:=T3.out.fz 2;simp only[noteG]at s0 s1 s2 s3 s4 s5 s6 s7 s8;go_wp2
   go_region
   all_goals
    go_wp2;go_end0;refine⟨rfl,?_,((((((((((T3.out.set 2 _).other (a:=⟨b,11,none⟩) (by simp;omega) _).other (a:=⟨b,12,none⟩) (by simp;omega) _).other (a:=⟨b,13,none⟩) (by simp;omega) _).other (a:=⟨b,14,none⟩) (by simp;omega) _).other (a:=⟨b,15,none⟩) (by simp;omega) _).other (a:=⟨b,16,none⟩) (by simp;omega) _).other (a:=⟨b,17,none⟩) (by simp;omega) _).other (a:=⟨b,18,none⟩) (by simp;omega) _).other (a:=⟨b,19,none⟩) (by simp;omega) _).drew,((((((((((C3.out.set (a:=⟨k,2,none⟩) (.inl (by simp)) _).set (a:=⟨b,11,none⟩) (.inl (by simp)) _).set (a:=⟨b,12,none⟩) (.inl (by simp)) _).set (a:=⟨b,13,none⟩) (.inl (by simp)) _).set (a:=⟨b,14,none⟩) (.inl (by simp)) _).set (a:=⟨b,15,none⟩) (.inl (by simp)) _).set (a:=⟨b,16,none⟩) (.inl (by simp)) _).set (a:=⟨b,17,none⟩) (.inl (by simp)) _).set (a:=⟨b,18,none⟩) (.inl (by simp)) _).set (a:=⟨b,19,none⟩) (.inl (by simp)) _).drew⟩
    first
     | (rw[Bool.or_true];exact((((((((((M3.out.other (a:=⟨k,2,none⟩) (by simp;omega) _).set 11 _).set 12 _).set 13 _).set 14 _).set 15 _).set 16 _).set 17 _).set 18 _).set 19 _).drew)
     | (rw[Bool.or_false];exact((((((((((M3.out.other (a:=⟨k,2,none⟩) (by simp;omega) _).set 11 _).set 12 _).set 13 _).set 14 _).set 15 _).set 16 _).set 17 _).set 18 _).set 19 _).drew)
  | false=>
   go_wp2_with fail
   refine(note_any k w.heap.size 1 t (gbV g1) _ T1.out G1.out (by omega) h1 h4 (gb_four 1 (.inl rfl))).mono ?_;rintro e w3 ⟨rfl,g3,c3⟩;have G3:Hid (Blk w3 w.heap.size (gbV (noteG g1 t)) 122):=by
    rw[gbV_gets _ _ _ HIX.out]at g3;exact g3
   have M3:Hid (Blk w3 b (mV vs vt vp [g0,g1,g2] [l0,l1,l2,l3,l4] r) 128):=M1.out.chg c3 (by simp;omega);have T3:Hid (Blk w3 k (thV t) 153):=T1.out.chg c3 (by simp;omega);have C3:Hid (Chg [b,k] w w3):=C1.out.trans' c3 (by simp);clear g3 c3 M1 T1 G1 C1 r55 z55;have s0:=G3.out.cell 0 _ rfl;have s1:=G3.out.cell 1 _ rfl;have s2:=G3.out.cell 2 _ rfl;have s3:=G3.out.cell 3 _ rfl;have s4:=G3.out.cell 4 _ rfl;have s5:=G3.out.cell 5 _ rfl;have s6:=G3.out.cell 6 _ rfl;have s7:=G3.out.cell 7 _ rfl;have s8:=G3.out.cell 8 _ rfl;have m0:=M3.out.cell 11 _ rfl;have z0:=M3.out.fz 11;have m1:=M3.out.cell 12 _ rfl;have z1:=M3.out.fz 12;have m2:=M3.out.cell 13 _ rfl;have z2:=M3.out.fz 13;have m3:=M3.out.cell 14 _ rfl;have z3:=M3.out.fz 14;have m4:=M3.out.cell 15 _ rfl;have z4:=M3.out.fz 15;have m5:=M3.out.cell 16 _ rfl;have z5:=M3.out.fz 16;have m6:=M3.out.cell 17 _ rfl;have z6:=M3.out.fz 17;have m7:=M3.out.cell 18 _ rfl;have z7:=M3.out.fz 18;have m8:=M3.out.cell 19 _ rfl;have z8:=M3.out.fz 19;have t2:=T3.out.cell 2 _ rfl;have y2:=T3.out.fz 2;simp only[noteG]at s0 s1 s2 s3 s4 s5 s6 s7 s8;go_wp2
   go_region
   all_goals
    go_wp2;go_end0;refine⟨rfl,?_,((((((((((T3.out.set 2 _).other (a:=⟨b,11,none⟩) (by simp;omega) _).other (a:=⟨b,12,none⟩) (by simp;omega) _).other (a:=⟨b,13,none⟩) (by simp;omega) _).other (a:=⟨b,14,none⟩) (by simp;omega) _).other (a:=⟨b,15,none⟩) (by simp;omega) _).other (a:=⟨b,16,none⟩) (by simp;omega) _).other (a:=⟨b,17,none⟩) (by simp;omega) _).other (a:=⟨b,18,none⟩) (by simp;omega) _).other (a:=⟨b,19,none⟩) (by simp;omega) _).drew,((((((((((C3.out.set (a:=⟨k,2,none⟩) (.inl (by simp)) _).set (a:=⟨b,11,none⟩) (.inl (by simp)) _).set (a:=⟨b,12,none⟩) (.inl (by simp)) _).set (a:=⟨b,13,none⟩) (.inl (by simp)) _).set (a:=⟨b,14,none⟩) (.inl (by simp)) _).set (a:=⟨b,15,none⟩) (.inl (by simp)) _).set (a:=⟨b,16,none⟩) (.inl (by simp)) _).set (a:=⟨b,17,none⟩) (.inl (by simp)) _).set (a:=⟨b,18,none⟩) (.inl (by simp)) _).set (a:=⟨b,19,none⟩) (.inl (by simp)) _).drew⟩
    first
     | (rw[Bool.or_true];exact((((((((((M3.out.other (a:=⟨k,2,none⟩) (by simp;omega) _).set 11 _).set 12 _).set 13 _).set 14 _).set 15 _).set 16 _).set 17 _).set 18 _).set 19 _).drew)
     | (rw[Bool.or_false];exact((((((((((M3.out.other (a:=⟨k,2,none⟩) (by simp;omega) _).set 11 _).set 12 _).set 13 _).set 14 _).set 15 _).set 16 _).set 17 _).set 18 _).set 19 _).drew)
set_option maxHeartbeats 6400000 in
set_option maxRecDepth 100000 in
theorem get_2(b k:Nat)(vs vt vp:Value)(g0 g1 g2:GB)(l0 l1 l2 l3 l4:LK)(r:Bool)(t:TH)(w:World)(hm:Blk w b (mV vs vt vp [g0,g1,g2] [l0,l1,l2,l3,l4] r) 128)(ht:Blk w k (thV t) 153)(hbk:b≠k)(h1:1≤t.name)(h4:t.name≤4) :
  Calls Tryz.prog 110 #[.pointer (some ⟨b,0,none⟩),.pointer (some ⟨k,0,none⟩),.int .i64 2] w fun e w'=>e=.returned (.tuple #[]) ∧
   Blk w' b (mV vs vt vp [g0,g1,noteG g2 t] [l0,l1,l2,l3,l4] (r||t.kn.misses g2.puts)) 128∧Blk w' k (thV { t with reg:=g2.val }) 153∧Chg [b,k] w w':=by
 have hblt:=hm.lt;have hklt:=ht.lt;have hbw:b≠w.heap.size:=by omega
 have hkw:k≠w.heap.size:=by omega
 have HM:Hid (Blk (w.alloc (.cells #[.int .i64 g2.val,.int .i64 g2.gets.c0,.int .i64 g2.gets.c1,.int .i64 g2.gets.c2,.int .i64 g2.gets.c3,.int .i64 g2.puts.c0,.int .i64 g2.puts.c1,.int .i64 g2.puts.c2,.int .i64 g2.puts.c3] 122)) b (mV vs vt vp [g0,g1,g2] [l0,l1,l2,l3,l4] r) 128):=hm.alloc _;have HT:Hid (Blk (w.alloc (.cells #[.int .i64 g2.val,.int .i64 g2.gets.c0,.int .i64 g2.gets.c1,.int .i64 g2.gets.c2,.int .i64 g2.gets.c3,.int .i64 g2.puts.c0,.int .i64 g2.puts.c1,.int .i64 g2.puts.c2,.int .i64 g2.puts.c3] 122)) k (thV t) 153):=ht.alloc _;have HG:Hid (Blk (w.alloc (.cells #[.int .i64 g2.val,.int .i64 g2.gets.c0,.int .i64 g2.gets.c1,.int .i64 g2.gets.c2,.int .i64 g2.gets.c3,.int .i64 g2.puts.c0,.int .i64 g2.puts.c1,.int .i64 g2.puts.c2,.int .i64 g2.puts.c3] 122)) w.heap.size (gbV g2) 122):=Blk.new (l:=gbV g2);have HC:Hid (Chg [b,k] w (w.alloc (.cells #[.int .i64 g2.val,.int .i64 g2.gets.c0,.int .i64 g2.gets.c1,.int .i64 g2.gets.c2,.int .i64 g2.gets.c3,.int .i64 g2.puts.c0,.int .i64 g2.puts.c1,.int .i64 g2.puts.c2,.int .i64 g2.puts.c3] 122))):=(Chg.refl _ w).alloc _;have HIX:Hid (t.ix<4):=ix_lt h1 h4;have q0:=hm.cell 20 _ rfl;have q1:=hm.cell 21 _ rfl;have q2:=hm.cell 22 _ rfl;have q3:=hm.cell 23 _ rfl;have q4:=hm.cell 24 _ rfl;have q5:=hm.cell 25 _ rfl;have q6:=hm.cell 26 _ rfl;have q7:=hm.cell 27 _ rfl;have q8:=hm.cell 28 _ rfl;have p5:=HG.out.cell 5 _ rfl;have p6:=HG.out.cell 6 _ rfl;have p7:=HG.out.cell 7 _ rfl;have p8:=HG.out.cell 8 _ rfl;have MI:=fun w' h=>misses_any k t g2.puts w' h
 obtain⟨ms,hms⟩:∃ms,ms=t.kn.misses g2.puts:=⟨_,rfl⟩;simp only[←hms]at MI ⊢;have MI:Hid (∀w':World,Blk w' k (thV t) 153→Calls Tryz.prog 123 #[.pointer (some ⟨k,3,none⟩),.agg #[.int .i64 g2.puts.c0,.int .i64 g2.puts.c1,.int .i64 g2.puts.c2,.int .i64 g2.puts.c3]] w' fun e w''=>e=.returned (.bool ms)∧Chg [] w' w''):=MI;clear hm ht hms
 go_enter Tryz.func110,Tryz.ntmps110
 go_wp2_with fail
 go_region_with (
  go_at_call 123
  refine(MI.out _ (by first|exact HT.out.drew|exact HT.out)).mono ?_
  rintro e w1 ⟨rfl,c1⟩)
 all_goals
  have M1:Hid (Blk w1 b (mV vs vt vp [g0,g1,g2] [l0,l1,l2,l3,l4] r) 128):=by first|exact HM.out.drew.chg c1 (by simp)|exact HM.out.chg c1 (by simp)
  have T1:Hid (Blk w1 k (thV t) 153):=by first|exact HT.out.drew.chg c1 (by simp)|exact HT.out.chg c1 (by simp)
  have G1:Hid (Blk w1 w.heap.size (gbV g2) 122):=by first|exact HG.out.drew.chg c1 (by simp)|exact HG.out.chg c1 (by simp)
  have C1:Hid (Chg [b,k] w w1):=by first|exact HC.out.drew.trans' c1 (by simp)|exact HC.out.trans' c1 (by simp)
  have r55:=M1.out.cell 55 _ rfl;have z55:=M1.out.fz 55;clear c1 q0 q1 q2 q3 q4 q5 q6 q7 q8 p5 p6 p7 p8 MI;cases ms with
  | true=>
   have M2:Hid (Blk (w1.setCell ⟨b,55,none⟩ (.bool true)) b (mV vs vt vp [g0,g1,g2] [l0,l1,l2,l3,l4] true) 128):=M1.out.set 55 _;have T2:Hid (Blk (w1.setCell ⟨b,55,none⟩ (.bool true)) k (thV t) 153):=T1.out.other (by simp;omega) _;have G2:Hid (Blk (w1.setCell ⟨b,55,none⟩ (.bool true)) w.heap.size (gbV g2) 122):=G1.out.other (by simp;omega) _;have C2:Hid (Chg [b,k] w (w1.setCell ⟨b,55,none⟩ (.bool true))):=C1.out.set (a:=⟨b,55,none⟩) (.inl (by simp)) _;clear M1 T1 G1 C1
   go_wp2_with fail
   refine(note_any k w.heap.size 1 t (gbV g2) _ T2.out G2.out (by omega) h1 h4 (gb_four 1 (.inl rfl))).mono ?_;rintro e w3 ⟨rfl,g3,c3⟩;have G3:Hid (Blk w3 w.heap.size (gbV (noteG g2 t)) 122):=by
    rw[gbV_gets _ _ _ HIX.out]at g3;exact g3
   have M3:Hid (Blk w3 b (mV vs vt vp [g0,g1,g2] [l0,l1,l2,l3,l4] true) 128):=M2.out.chg c3 (by simp;omega);have T3:Hid (Blk w3 k (thV t) 153):=T2.out.chg c3 (by simp;omega);have C3:Hid (Chg [b,k] w w3):=C2.out.trans' c3 (by simp);clear g3 c3 M2 T2 G2 C2 r55 z55;have s0:=G3.out.cell 0 _ rfl;have s1:=G3.out.cell 1 _ rfl;have s2:=G3.out.cell 2 _ rfl;have s3:=G3.out.cell 3 _ rfl;have s4:=G3.out.cell 4 _ rfl;have s5:=G3.out.cell 5 _ rfl;have s6:=G3.out.cell 6 _ rfl;have s7:=G3.out.cell 7 _ rfl;have s8:=G3.out.cell 8 _ rfl;have m0:=M3.out.cell 20 _ rfl;have z0:=M3.out.fz 20;have m1:=M3.out.cell 21 _ rfl;have z1:=M3.out.fz 21;have m2:=M3.out.cell 22 _ rfl;have z2:=M3.out.fz 22;have m3:=M3.out.cell 23 _ rfl;have z3:=M3.out.fz 23;have m4:=M3.out.cell 24 _ rfl;have z4:=M3.out.fz 24;have m5:=M3.out.cell 25 _ rfl;have z5:=M3.out.fz 25;have m6:=M3.out.cell 26 _ rfl;have z6:=M3.out.fz 26;have m7:=M3.out.cell 27 _ rfl;have z7:=M3.out.fz 27;have m8:=M3.out.cell 28 _ rfl;have z8:=M3.out.fz 28;have t2:=T3.out.cell 2 _ rfl;have y2:=T3.out.fz 2;simp only[noteG]at s0 s1 s2 s3 s4 s5 s6 s7 s8;go_wp2
   go_region
   all_goals
    go_wp2;go_end0;refine⟨rfl,?_,((((((((((T3.out.set 2 _).other (a:=⟨b,20,none⟩) (by simp;omega) _).other (a:=⟨b,21,none⟩) (by simp;omega) _).other (a:=⟨b,22,none⟩) (by simp;omega) _).other (a:=⟨b,23,none⟩) (by simp;omega) _).other (a:=⟨b,24,none⟩) (by simp;omega) _).other (a:=⟨b,25,none⟩) (by simp;omega) _).other (a:=⟨b,26,none⟩) (by simp;omega) _).other (a:=⟨b,27,none⟩) (by simp;omega) _).other (a:=⟨b,28,none⟩) (by simp;omega) _).drew,((((((((((C3.out.set (a:=⟨k,2,none⟩) (.inl (by simp)) _).set (a:=⟨b,20,none⟩) (.inl (by simp)) _).set (a:=⟨b,21,none⟩) (.inl (by simp)) _).set (a:=⟨b,22,none⟩) (.inl (by simp)) _).set (a:=⟨b,23,none⟩) (.inl (by simp)) _).set (a:=⟨b,24,none⟩) (.inl (by simp)) _).set (a:=⟨b,25,none⟩) (.inl (by simp)) _).set (a:=⟨b,26,none⟩) (.inl (by simp)) _).set (a:=⟨b,27,none⟩) (.inl (by simp)) _).set (a:=⟨b,28,none⟩) (.inl (by simp)) _).drew⟩
    first
     | (rw[Bool.or_true];exact((((((((((M3.out.other (a:=⟨k,2,none⟩) (by simp;omega) _).set 20 _).set 21 _).set 22 _).set 23 _).set 24 _).set 25 _).set 26 _).set 27 _).set 28 _).drew)
     | (rw[Bool.or_false];exact((((((((((M3.out.other (a:=⟨k,2,none⟩) (by simp;omega) _).set 20 _).set 21 _).set 22 _).set 23 _).set 24 _).set 25 _).set 26 _).set 27 _).set 28 _).drew)
  | false=>
   go_wp2_with fail
   refine(note_any k w.heap.size 1 t (gbV g2) _ T1.out G1.out (by omega) h1 h4 (gb_four 1 (.inl rfl))).mono ?_;rintro e w3 ⟨rfl,g3,c3⟩;have G3:Hid (Blk w3 w.heap.size (gbV (noteG g2 t)) 122):=by
    rw[gbV_gets _ _ _ HIX.out]at g3;exact g3
   have M3:Hid (Blk w3 b (mV vs vt vp [g0,g1,g2] [l0,l1,l2,l3,l4] r) 128):=M1.out.chg c3 (by simp;omega);have T3:Hid (Blk w3 k (thV t) 153):=T1.out.chg c3 (by simp;omega);have C3:Hid (Chg [b,k] w w3):=C1.out.trans' c3 (by simp);clear g3 c3 M1 T1 G1 C1 r55 z55;have s0:=G3.out.cell 0 _ rfl;have s1:=G3.out.cell 1 _ rfl;have s2:=G3.out.cell 2 _ rfl;have s3:=G3.out.cell 3 _ rfl;have s4:=G3.out.cell 4 _ rfl;have s5:=G3.out.cell 5 _ rfl;have s6:=G3.out.cell 6 _ rfl;have s7:=G3.out.cell 7 _ rfl;have s8:=G3.out.cell 8 _ rfl;have m0:=M3.out.cell 20 _ rfl;have z0:=M3.out.fz 20;have m1:=M3.out.cell 21 _ rfl;have z1:=M3.out.fz 21;have m2:=M3.out.cell 22 _ rfl;have z2:=M3.out.fz 22;have m3:=M3.out.cell 23 _ rfl;have z3:=M3.out.fz 23;have m4:=M3.out.cell 24 _ rfl;have z4:=M3.out.fz 24;have m5:=M3.out.cell 25 _ rfl;have z5:=M3.out.fz 25;have m6:=M3.out.cell 26 _ rfl;have z6:=M3.out.fz 26;have m7:=M3.out.cell 27 _ rfl;have z7:=M3.out.fz 27;have m8:=M3.out.cell 28 _ rfl;have z8:=M3.out.fz 28;have t2:=T3.out.cell 2 _ rfl;have y2:=T3.out.fz 2;simp only[noteG]at s0 s1 s2 s3 s4 s5 s6 s7 s8;go_wp2
   go_region
   all_goals
    go_wp2;go_end0;refine⟨rfl,?_,((((((((((T3.out.set 2 _).other (a:=⟨b,20,none⟩) (by simp;omega) _).other (a:=⟨b,21,none⟩) (by simp;omega) _).other (a:=⟨b,22,none⟩) (by simp;omega) _).other (a:=⟨b,23,none⟩) (by simp;omega) _).other (a:=⟨b,24,none⟩) (by simp;omega) _).other (a:=⟨b,25,none⟩) (by simp;omega) _).other (a:=⟨b,26,none⟩) (by simp;omega) _).other (a:=⟨b,27,none⟩) (by simp;omega) _).other (a:=⟨b,28,none⟩) (by simp;omega) _).drew,((((((((((C3.out.set (a:=⟨k,2,none⟩) (.inl (by simp)) _).set (a:=⟨b,20,none⟩) (.inl (by simp)) _).set (a:=⟨b,21,none⟩) (.inl (by simp)) _).set (a:=⟨b,22,none⟩) (.inl (by simp)) _).set (a:=⟨b,23,none⟩) (.inl (by simp)) _).set (a:=⟨b,24,none⟩) (.inl (by simp)) _).set (a:=⟨b,25,none⟩) (.inl (by simp)) _).set (a:=⟨b,26,none⟩) (.inl (by simp)) _).set (a:=⟨b,27,none⟩) (.inl (by simp)) _).set (a:=⟨b,28,none⟩) (.inl (by simp)) _).drew⟩
    first
     | (rw[Bool.or_true];exact((((((((((M3.out.other (a:=⟨k,2,none⟩) (by simp;omega) _).set 20 _).set 21 _).set 22 _).set 23 _).set 24 _).set 25 _).set 26 _).set 27 _).set 28 _).drew)
     | (rw[Bool.or_false];exact((((((((((M3.out.other (a:=⟨k,2,none⟩) (by simp;omega) _).set 20 _).set 21 _).set 22 _).set 23 _).set 24 _).set 25 _).set 26 _).set 27 _).set 28 _).drew)
end Go.Proofs.YtdgkpkdinfklaabGreat
