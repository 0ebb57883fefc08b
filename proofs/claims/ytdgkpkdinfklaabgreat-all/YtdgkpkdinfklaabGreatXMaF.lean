import Derived.Test.YtdgkpkdinfklaabGreatGK
namespace Go.Proofs.YtdgkpkdinfklaabGreat
open Go.RowKit
set_option maxHeartbeats 6400000 in
set_option maxRecDepth 100000 in
theorem take_0(b k:Nat)(vs vt vp:Value)(g0 g1 g2:GB)(l0 l1 l2 l3 l4:LK)(r:Bool)(t:TH)(w:World)(hm:Blk w b (mV vs vt vp [g0,g1,g2] [l0,l1,l2,l3,l4] r) 128)(ht:Blk w k (thV t) 153)(hbk:b≠k) :
  Calls Tryz.prog 114 #[.pointer (some ⟨b,0,none⟩),.pointer (some ⟨k,0,none⟩),.int .i64 0] w fun e w'=>e=.returned (.tuple #[]) ∧
   Blk w' b (mV vs vt vp [g0,g1,g2] [{ l0 with holder:=t.name },l1,l2,l3,l4] r) 128∧Blk w' k (thV { t with kn:=t.kn.learn l0.kn }) 153∧Chg [b,k] w w':=by
 have HM:Hid (Blk (w.setCell ⟨b,29,none⟩ (.int .i64 t.name)) b (mV vs vt vp [g0,g1,g2] [{ l0 with holder:=t.name },l1,l2,l3,l4] r) 128):=hm.set 29 _;have HT:Hid (Blk (w.setCell ⟨b,29,none⟩ (.int .i64 t.name)) k (thV t) 153):=ht.other (by simp;omega) _;have HC:Hid (Chg [b,k] w (w.setCell ⟨b,29,none⟩ (.int .i64 t.name))):=(Chg.refl _ w).set (a:=⟨b,29,none⟩) (.inl (by simp)) _;have q0:=hm.cell 29 _ rfl;have q1:=hm.cell 30 _ rfl;have q2:=hm.cell 31 _ rfl;have q3:=hm.cell 32 _ rfl;have q4:=hm.cell 33 _ rfl;have z0:=hm.fz 29;have t0:=ht.cell 0 _ rfl;clear hm ht
 go_enter Tryz.func114,Tryz.ntmps114
 go_wp2
 go_region
 all_goals
  go_wp2_with fail
  go_region_with (
   go_at_call 125
   refine(learn_any k t l0.kn _ (by first|exact HT.out.drew.drew|exact HT.out.drew|exact HT.out)).mono ?_
   rintro e w1 ⟨rfl,t1,c1⟩)
  all_goals
   have M1:Hid (Blk w1 b (mV vs vt vp [g0,g1,g2] [{ l0 with holder:=t.name },l1,l2,l3,l4] r) 128):=by first|exact HM.out.drew.drew.chg c1 (by simp;omega)|exact HM.out.drew.chg c1 (by simp;omega)|exact HM.out.chg c1 (by simp;omega)
   have T1:Hid (Blk w1 k (thV { t with kn:=t.kn.learn l0.kn }) 153):=t1;have C1:Hid (Chg [b,k] w w1):=by first|exact HC.out.drew.drew.trans' c1 (by simp)|exact HC.out.drew.trans' c1 (by simp)|exact HC.out.trans' c1 (by simp)
   clear t1 c1 q0 q1 q2 q3 q4 z0 t0;go_wp2;go_end0;exact⟨rfl,M1.out,T1.out,C1.out⟩
set_option maxHeartbeats 6400000 in
set_option maxRecDepth 100000 in
theorem take_1(b k:Nat)(vs vt vp:Value)(g0 g1 g2:GB)(l0 l1 l2 l3 l4:LK)(r:Bool)(t:TH)(w:World)(hm:Blk w b (mV vs vt vp [g0,g1,g2] [l0,l1,l2,l3,l4] r) 128)(ht:Blk w k (thV t) 153)(hbk:b≠k) :
  Calls Tryz.prog 114 #[.pointer (some ⟨b,0,none⟩),.pointer (some ⟨k,0,none⟩),.int .i64 1] w fun e w'=>e=.returned (.tuple #[]) ∧
   Blk w' b (mV vs vt vp [g0,g1,g2] [l0,{ l1 with holder:=t.name },l2,l3,l4] r) 128∧Blk w' k (thV { t with kn:=t.kn.learn l1.kn }) 153∧Chg [b,k] w w':=by
 have HM:Hid (Blk (w.setCell ⟨b,34,none⟩ (.int .i64 t.name)) b (mV vs vt vp [g0,g1,g2] [l0,{ l1 with holder:=t.name },l2,l3,l4] r) 128):=hm.set 34 _;have HT:Hid (Blk (w.setCell ⟨b,34,none⟩ (.int .i64 t.name)) k (thV t) 153):=ht.other (by simp;omega) _;have HC:Hid (Chg [b,k] w (w.setCell ⟨b,34,none⟩ (.int .i64 t.name))):=(Chg.refl _ w).set (a:=⟨b,34,none⟩) (.inl (by simp)) _;have q0:=hm.cell 34 _ rfl;have q1:=hm.cell 35 _ rfl;have q2:=hm.cell 36 _ rfl;have q3:=hm.cell 37 _ rfl;have q4:=hm.cell 38 _ rfl;have z0:=hm.fz 34;have t0:=ht.cell 0 _ rfl;clear hm ht
 go_enter Tryz.func114,Tryz.ntmps114
 go_wp2
 go_region
 all_goals
  go_wp2_with fail
  go_region_with (
   go_at_call 125
   refine(learn_any k t l1.kn _ (by first|exact HT.out.drew.drew|exact HT.out.drew|exact HT.out)).mono ?_
   rintro e w1 ⟨rfl,t1,c1⟩)
  all_goals
   have M1:Hid (Blk w1 b (mV vs vt vp [g0,g1,g2] [l0,{ l1 with holder:=t.name },l2,l3,l4] r) 128):=by first|exact HM.out.drew.drew.chg c1 (by simp;omega)|exact HM.out.drew.chg c1 (by simp;omega)|exact HM.out.chg c1 (by simp;omega)
   have T1:Hid (Blk w1 k (thV { t with kn:=t.kn.learn l1.kn }) 153):=t1;have C1:Hid (Chg [b,k] w w1):=by first|exact HC.out.drew.drew.trans' c1 (by simp)|exact HC.out.drew.trans' c1 (by simp)|exact HC.out.trans' c1 (by simp)
   clear t1 c1 q0 q1 q2 q3 q4 z0 t0;go_wp2;go_end0;exact⟨rfl,M1.out,T1.out,C1.out⟩
set_option maxHeartbeats 6400000 in
set_option maxRecDepth 100000 in
theorem take_2(b k:Nat)(vs vt vp:Value)(g0 g1 g2:GB)(l0 l1 l2 l3 l4:LK)(r:Bool)(t:TH)(w:World)(hm:Blk w b (mV vs vt vp [g0,g1,g2] [l0,l1,l2,l3,l4] r) 128)(ht:Blk w k (thV t) 153)(hbk:b≠k) :
  Calls Tryz.prog 114 #[.pointer (some ⟨b,0,none⟩),.pointer (some ⟨k,0,none⟩),.int .i64 2] w fun e w'=>e=.returned (.tuple #[]) ∧
   Blk w' b (mV vs vt vp [g0,g1,g2] [l0,l1,{ l2 with holder:=t.name },l3,l4] r) 128∧Blk w' k (thV { t with kn:=t.kn.learn l2.kn }) 153∧Chg [b,k] w w':=by
 have HM:Hid (Blk (w.setCell ⟨b,39,none⟩ (.int .i64 t.name)) b (mV vs vt vp [g0,g1,g2] [l0,l1,{ l2 with holder:=t.name },l3,l4] r) 128):=hm.set 39 _;have HT:Hid (Blk (w.setCell ⟨b,39,none⟩ (.int .i64 t.name)) k (thV t) 153):=ht.other (by simp;omega) _;have HC:Hid (Chg [b,k] w (w.setCell ⟨b,39,none⟩ (.int .i64 t.name))):=(Chg.refl _ w).set (a:=⟨b,39,none⟩) (.inl (by simp)) _;have q0:=hm.cell 39 _ rfl;have q1:=hm.cell 40 _ rfl;have q2:=hm.cell 41 _ rfl;have q3:=hm.cell 42 _ rfl;have q4:=hm.cell 43 _ rfl;have z0:=hm.fz 39;have t0:=ht.cell 0 _ rfl;clear hm ht
 go_enter Tryz.func114,Tryz.ntmps114
 go_wp2
 go_region
 all_goals
  go_wp2_with fail
  go_region_with (
   go_at_call 125
   refine(learn_any k t l2.kn _ (by first|exact HT.out.drew.drew|exact HT.out.drew|exact HT.out)).mono ?_
   rintro e w1 ⟨rfl,t1,c1⟩)
  all_goals
   have M1:Hid (Blk w1 b (mV vs vt vp [g0,g1,g2] [l0,l1,{ l2 with holder:=t.name },l3,l4] r) 128):=by first|exact HM.out.drew.drew.chg c1 (by simp;omega)|exact HM.out.drew.chg c1 (by simp;omega)|exact HM.out.chg c1 (by simp;omega)
   have T1:Hid (Blk w1 k (thV { t with kn:=t.kn.learn l2.kn }) 153):=t1;have C1:Hid (Chg [b,k] w w1):=by first|exact HC.out.drew.drew.trans' c1 (by simp)|exact HC.out.drew.trans' c1 (by simp)|exact HC.out.trans' c1 (by simp)
   clear t1 c1 q0 q1 q2 q3 q4 z0 t0;go_wp2;go_end0;exact⟨rfl,M1.out,T1.out,C1.out⟩
set_option maxHeartbeats 6400000 in
set_option maxRecDepth 100000 in
theorem take_3(b k:Nat)(vs vt vp:Value)(g0 g1 g2:GB)(l0 l1 l2 l3 l4:LK)(r:Bool)(t:TH)(w:World)(hm:Blk w b (mV vs vt vp [g0,g1,g2] [l0,l1,l2,l3,l4] r) 128)(ht:Blk w k (thV t) 153)(hbk:b≠k) :
  Calls Tryz.prog 114 #[.pointer (some ⟨b,0,none⟩),.pointer (some ⟨k,0,none⟩),.int .i64 3] w fun e w'=>e=.returned (.tuple #[]) ∧
   Blk w' b (mV vs vt vp [g0,g1,g2] [l0,l1,l2,{ l3 with holder:=t.name },l4] r) 128∧Blk w' k (thV { t with kn:=t.kn.learn l3.kn }) 153∧Chg [b,k] w w':=by
 have HM:Hid (Blk (w.setCell ⟨b,44,none⟩ (.int .i64 t.name)) b (mV vs vt vp [g0,g1,g2] [l0,l1,l2,{ l3 with holder:=t.name },l4] r) 128):=hm.set 44 _;have HT:Hid (Blk (w.setCell ⟨b,44,none⟩ (.int .i64 t.name)) k (thV t) 153):=ht.other (by simp;omega) _;have HC:Hid (Chg [b,k] w (w.setCell ⟨b,44,none⟩ (.int .i64 t.name))):=(Chg.refl _ w).set (a:=⟨b,44,none⟩) (.inl (by simp)) _;have q0:=hm.cell 44 _ rfl;have q1:=hm.cell 45 _ rfl;have q2:=hm.cell 46 _ rfl;have q3:=hm.cell 47 _ rfl;have q4:=hm.cell 48 _ rfl;have z0:=hm.fz 44;have t0:=ht.cell 0 _ rfl;clear hm ht
 go_enter Tryz.func114,Tryz.ntmps114
 go_wp2
 go_region
 all_goals
  go_wp2_with fail
  go_region_with (
   go_at_call 125
   refine(learn_any k t l3.kn _ (by first|exact HT.out.drew.drew|exact HT.out.drew|exact HT.out)).mono ?_
   rintro e w1 ⟨rfl,t1,c1⟩)
  all_goals
   have M1:Hid (Blk w1 b (mV vs vt vp [g0,g1,g2] [l0,l1,l2,{ l3 with holder:=t.name },l4] r) 128):=by first|exact HM.out.drew.drew.chg c1 (by simp;omega)|exact HM.out.drew.chg c1 (by simp;omega)|exact HM.out.chg c1 (by simp;omega)
   have T1:Hid (Blk w1 k (thV { t with kn:=t.kn.learn l3.kn }) 153):=t1;have C1:Hid (Chg [b,k] w w1):=by first|exact HC.out.drew.drew.trans' c1 (by simp)|exact HC.out.drew.trans' c1 (by simp)|exact HC.out.trans' c1 (by simp)
   clear t1 c1 q0 q1 q2 q3 q4 z0 t0;go_wp2;go_end0;exact⟨rfl,M1.out,T1.out,C1.out⟩
set_option maxHeartbeats 6400000 in
set_option maxRecDepth 100000 in
theorem take_4(b k:Nat)(vs vt vp:Value)(g0 g1 g2:GB)(l0 l1 l2 l3 l4:LK)(r:Bool)(t:TH)(w:World)(hm:Blk w b (mV vs vt vp [g0,g1,g2] [l0,l1,l2,l3,l4] r) 128)(ht:Blk w k (thV t) 153)(hbk:b≠k) :
  Calls Tryz.prog 114 #[.pointer (some ⟨b,0,none⟩),.pointer (some ⟨k,0,none⟩),.int .i64 4] w fun e w'=>e=.returned (.tuple #[]) ∧
   Blk w' b (mV vs vt vp [g0,g1,g2] [l0,l1,l2,l3,{ l4 with holder:=t.name }] r) 128∧Blk w' k (thV { t with kn:=t.kn.learn l4.kn }) 153∧Chg [b,k] w w':=by
 have HM:Hid (Blk (w.setCell ⟨b,49,none⟩ (.int .i64 t.name)) b (mV vs vt vp [g0,g1,g2] [l0,l1,l2,l3,{ l4 with holder:=t.name }] r) 128):=hm.set 49 _;have HT:Hid (Blk (w.setCell ⟨b,49,none⟩ (.int .i64 t.name)) k (thV t) 153):=ht.other (by simp;omega) _;have HC:Hid (Chg [b,k] w (w.setCell ⟨b,49,none⟩ (.int .i64 t.name))):=(Chg.refl _ w).set (a:=⟨b,49,none⟩) (.inl (by simp)) _;have q0:=hm.cell 49 _ rfl;have q1:=hm.cell 50 _ rfl;have q2:=hm.cell 51 _ rfl;have q3:=hm.cell 52 _ rfl;have q4:=hm.cell 53 _ rfl;have z0:=hm.fz 49;have t0:=ht.cell 0 _ rfl;clear hm ht
 go_enter Tryz.func114,Tryz.ntmps114
 go_wp2
 go_region
 all_goals
  go_wp2_with fail
  go_region_with (
   go_at_call 125
   refine(learn_any k t l4.kn _ (by first|exact HT.out.drew.drew|exact HT.out.drew|exact HT.out)).mono ?_
   rintro e w1 ⟨rfl,t1,c1⟩)
  all_goals
   have M1:Hid (Blk w1 b (mV vs vt vp [g0,g1,g2] [l0,l1,l2,l3,{ l4 with holder:=t.name }] r) 128):=by first|exact HM.out.drew.drew.chg c1 (by simp;omega)|exact HM.out.drew.chg c1 (by simp;omega)|exact HM.out.chg c1 (by simp;omega)
   have T1:Hid (Blk w1 k (thV { t with kn:=t.kn.learn l4.kn }) 153):=t1;have C1:Hid (Chg [b,k] w w1):=by first|exact HC.out.drew.drew.trans' c1 (by simp)|exact HC.out.drew.trans' c1 (by simp)|exact HC.out.trans' c1 (by simp)
   clear t1 c1 q0 q1 q2 q3 q4 z0 t0;go_wp2;go_end0;exact⟨rfl,M1.out,T1.out,C1.out⟩
set_option maxHeartbeats 6400000 in
set_option maxRecDepth 100000 in
theorem give_0(b k:Nat)(vs vt vp:Value)(g0 g1 g2:GB)(l0 l1 l2 l3 l4:LK)(r:Bool)(t:TH)(w:World)(hm:Blk w b (mV vs vt vp [g0,g1,g2] [l0,l1,l2,l3,l4] r) 128)(ht:Blk w k (thV t) 153)(hbk:b≠k) :
  Calls Tryz.prog 116 #[.pointer (some ⟨b,0,none⟩),.pointer (some ⟨k,0,none⟩),.int .i64 0] w fun e w'=>e=.returned (.tuple #[]) ∧
   Blk w' b (mV vs vt vp [g0,g1,g2] [⟨0,t.kn⟩,l1,l2,l3,l4] r) 128∧Blk w' k (thV t) 153∧Chg [b,k] w w':=by
 have q0:=hm.cell 29 _ rfl;have q1:=hm.cell 30 _ rfl;have q2:=hm.cell 31 _ rfl;have q3:=hm.cell 32 _ rfl;have q4:=hm.cell 33 _ rfl;have z0:=hm.fz 29;have z1:=hm.fz 30;have z2:=hm.fz 31;have z3:=hm.fz 32;have z4:=hm.fz 33;have t3:=ht.cell 3 _ rfl;have t4:=ht.cell 4 _ rfl;have t5:=ht.cell 5 _ rfl;have t6:=ht.cell 6 _ rfl;have HM:Hid (Blk w b (mV vs vt vp [g0,g1,g2] [l0,l1,l2,l3,l4] r) 128):=hm;have HT:Hid (Blk w k (thV t) 153):=ht;clear hm ht
 go_enter Tryz.func116,Tryz.ntmps116
 go_wp2
 go_region
 all_goals
  go_wp2;go_end0;have hm:=HM.out;have ht:=HT.out;exact⟨rfl,(((((hm.set 29 _).set 30 _).set 31 _).set 32 _).set 33 _).drew,(((((ht.other (a:=⟨b,29,none⟩) (by simp;omega) _).other (a:=⟨b,30,none⟩) (by simp;omega) _).other (a:=⟨b,31,none⟩) (by simp;omega) _).other (a:=⟨b,32,none⟩) (by simp;omega) _).other (a:=⟨b,33,none⟩) (by simp;omega) _).drew,((((((Chg.refl _ w).set (a:=⟨b,29,none⟩) (.inl (by simp)) _).set (a:=⟨b,30,none⟩) (.inl (by simp)) _).set (a:=⟨b,31,none⟩) (.inl (by simp)) _).set (a:=⟨b,32,none⟩) (.inl (by simp)) _).set (a:=⟨b,33,none⟩) (.inl (by simp)) _).drew⟩
set_option maxHeartbeats 6400000 in
set_option maxRecDepth 100000 in
theorem give_1(b k:Nat)(vs vt vp:Value)(g0 g1 g2:GB)(l0 l1 l2 l3 l4:LK)(r:Bool)(t:TH)(w:World)(hm:Blk w b (mV vs vt vp [g0,g1,g2] [l0,l1,l2,l3,l4] r) 128)(ht:Blk w k (thV t) 153)(hbk:b≠k) :
  Calls Tryz.prog 116 #[.pointer (some ⟨b,0,none⟩),.pointer (some ⟨k,0,none⟩),.int .i64 1] w fun e w'=>e=.returned (.tuple #[]) ∧
   Blk w' b (mV vs vt vp [g0,g1,g2] [l0,⟨0,t.kn⟩,l2,l3,l4] r) 128∧Blk w' k (thV t) 153∧Chg [b,k] w w':=by
 have q0:=hm.cell 34 _ rfl;have q1:=hm.cell 35 _ rfl;have q2:=hm.cell 36 _ rfl;have q3:=hm.cell 37 _ rfl;have q4:=hm.cell 38 _ rfl;have z0:=hm.fz 34;have z1:=hm.fz 35;have z2:=hm.fz 36;have z3:=hm.fz 37;have z4:=hm.fz 38;have t3:=ht.cell 3 _ rfl;have t4:=ht.cell 4 _ rfl;have t5:=ht.cell 5 _ rfl;have t6:=ht.cell 6 _ rfl;have HM:Hid (Blk w b (mV vs vt vp [g0,g1,g2] [l0,l1,l2,l3,l4] r) 128):=hm;have HT:Hid (Blk w k (thV t) 153):=ht;clear hm ht
 go_enter Tryz.func116,Tryz.ntmps116
 go_wp2
 go_region
 all_goals
  go_wp2;go_end0;have hm:=HM.out;have ht:=HT.out;exact⟨rfl,(((((hm.set 34 _).set 35 _).set 36 _).set 37 _).set 38 _).drew,(((((ht.other (a:=⟨b,34,none⟩) (by simp;omega) _).other (a:=⟨b,35,none⟩) (by simp;omega) _).other (a:=⟨b,36,none⟩) (by simp;omega) _).other (a:=⟨b,37,none⟩) (by simp;omega) _).other (a:=⟨b,38,none⟩) (by simp;omega) _).drew,((((((Chg.refl _ w).set (a:=⟨b,34,none⟩) (.inl (by simp)) _).set (a:=⟨b,35,none⟩) (.inl (by simp)) _).set (a:=⟨b,36,none⟩) (.inl (by simp)) _).set (a:=⟨b,37,none⟩) (.inl (by simp)) _).set (a:=⟨b,38,none⟩) (.inl (by simp)) _).drew⟩
set_option maxHeartbeats 6400000 in
set_option maxRecDepth 100000 in
theorem give_2(b k:Nat)(vs vt vp:Value)(g0 g1 g2:GB)(l0 l1 l2 l3 l4:LK)(r:Bool)(t:TH)(w:World)(hm:Blk w b (mV vs vt vp [g0,g1,g2] [l0,l1,l2,l3,l4] r) 128)(ht:Blk w k (thV t) 153)(hbk:b≠k) :
  Calls Tryz.prog 116 #[.pointer (some ⟨b,0,none⟩),.pointer (some ⟨k,0,none⟩),.int .i64 2] w fun e w'=>e=.returned (.tuple #[]) ∧
   Blk w' b (mV vs vt vp [g0,g1,g2] [l0,l1,⟨0,t.kn⟩,l3,l4] r) 128∧Blk w' k (thV t) 153∧Chg [b,k] w w':=by
 have q0:=hm.cell 39 _ rfl;have q1:=hm.cell 40 _ rfl;have q2:=hm.cell 41 _ rfl;have q3:=hm.cell 42 _ rfl;have q4:=hm.cell 43 _ rfl;have z0:=hm.fz 39;have z1:=hm.fz 40;have z2:=hm.fz 41;have z3:=hm.fz 42;have z4:=hm.fz 43;have t3:=ht.cell 3 _ rfl;have t4:=ht.cell 4 _ rfl;have t5:=ht.cell 5 _ rfl;have t6:=ht.cell 6 _ rfl;have HM:Hid (Blk w b (mV vs vt vp [g0,g1,g2] [l0,l1,l2,l3,l4] r) 128):=hm;have HT:Hid (Blk w k (thV t) 153):=ht;clear hm ht
 go_enter Tryz.func116,Tryz.ntmps116
 go_wp2
 go_region
 all_goals
  go_wp2;go_end0;have hm:=HM.out;have ht:=HT.out;exact⟨rfl,(((((hm.set 39 _).set 40 _).set 41 _).set 42 _).set 43 _).drew,(((((ht.other (a:=⟨b,39,none⟩) (by simp;omega) _).other (a:=⟨b,40,none⟩) (by simp;omega) _).other (a:=⟨b,41,none⟩) (by simp;omega) _).other (a:=⟨b,42,none⟩) (by simp;omega) _).other (a:=⟨b,43,none⟩) (by simp;omega) _).drew,((((((Chg.refl _ w).set (a:=⟨b,39,none⟩) (.inl (by simp)) _).set (a:=⟨b,40,none⟩) (.inl (by simp)) _).set (a:=⟨b,41,none⟩) (.inl (by simp)) _).set (a:=⟨b,42,none⟩) (.inl (by simp)) _).set (a:=⟨b,43,none⟩) (.inl (by simp)) _).drew⟩
set_option maxHeartbeats 6400000 in
set_option maxRecDepth 100000 in
theorem give_3(b k:Nat)(vs vt vp:Value)(g0 g1 g2:GB)(l0 l1 l2 l3 l4:LK)(r:Bool)(t:TH)(w:World)(hm:Blk w b (mV vs vt vp [g0,g1,g2] [l0,l1,l2,l3,l4] r) 128)(ht:Blk w k (thV t) 153)(hbk:b≠k) :
  Calls Tryz.prog 116 #[.pointer (some ⟨b,0,none⟩),.pointer (some ⟨k,0,none⟩),.int .i64 3] w fun e w'=>e=.returned (.tuple #[]) ∧
   Blk w' b (mV vs vt vp [g0,g1,g2] [l0,l1,l2,⟨0,t.kn⟩,l4] r) 128∧Blk w' k (thV t) 153∧Chg [b,k] w w':=by
 have q0:=hm.cell 44 _ rfl;have q1:=hm.cell 45 _ rfl;have q2:=hm.cell 46 _ rfl;have q3:=hm.cell 47 _ rfl;have q4:=hm.cell 48 _ rfl;have z0:=hm.fz 44;have z1:=hm.fz 45;have z2:=hm.fz 46;have z3:=hm.fz 47;have z4:=hm.fz 48;have t3:=ht.cell 3 _ rfl;have t4:=ht.cell 4 _ rfl;have t5:=ht.cell 5 _ rfl;have t6:=ht.cell 6 _ rfl;have HM:Hid (Blk w b (mV vs vt vp [g0,g1,g2] [l0,l1,l2,l3,l4] r) 128):=hm;have HT:Hid (Blk w k (thV t) 153):=ht;clear hm ht
 go_enter Tryz.func116,Tryz.ntmps116
 go_wp2
 go_region
 all_goals
  go_wp2;go_end0;have hm:=HM.out;have ht:=HT.out;exact⟨rfl,(((((hm.set 44 _).set 45 _).set 46 _).set 47 _).set 48 _).drew,(((((ht.other (a:=⟨b,44,none⟩) (by simp;omega) _).other (a:=⟨b,45,none⟩) (by simp;omega) _).other (a:=⟨b,46,none⟩) (by simp;omega) _).other (a:=⟨b,47,none⟩) (by simp;omega) _).other (a:=⟨b,48,none⟩) (by simp;omega) _).drew,((((((Chg.refl _ w).set (a:=⟨b,44,none⟩) (.inl (by simp)) _).set (a:=⟨b,45,none⟩) (.inl (by simp)) _).set (a:=⟨b,46,none⟩) (.inl (by simp)) _).set (a:=⟨b,47,none⟩) (.inl (by simp)) _).set (a:=⟨b,48,none⟩) (.inl (by simp)) _).drew⟩
set_option maxHeartbeats 6400000 in
set_option maxRecDepth 100000 in
theorem give_4(b k:Nat)(vs vt vp:Value)(g0 g1 g2:GB)(l0 l1 l2 l3 l4:LK)(r:Bool)(t:TH)(w:World)(hm:Blk w b (mV vs vt vp [g0,g1,g2] [l0,l1,l2,l3,l4] r) 128)(ht:Blk w k (thV t) 153)(hbk:b≠k) :
  Calls Tryz.prog 116 #[.pointer (some ⟨b,0,none⟩),.pointer (some ⟨k,0,none⟩),.int .i64 4] w fun e w'=>e=.returned (.tuple #[]) ∧
   Blk w' b (mV vs vt vp [g0,g1,g2] [l0,l1,l2,l3,⟨0,t.kn⟩] r) 128∧Blk w' k (thV t) 153∧Chg [b,k] w w':=by
 have q0:=hm.cell 49 _ rfl;have q1:=hm.cell 50 _ rfl;have q2:=hm.cell 51 _ rfl;have q3:=hm.cell 52 _ rfl;have q4:=hm.cell 53 _ rfl;have z0:=hm.fz 49;have z1:=hm.fz 50;have z2:=hm.fz 51;have z3:=hm.fz 52;have z4:=hm.fz 53;have t3:=ht.cell 3 _ rfl;have t4:=ht.cell 4 _ rfl;have t5:=ht.cell 5 _ rfl;have t6:=ht.cell 6 _ rfl;have HM:Hid (Blk w b (mV vs vt vp [g0,g1,g2] [l0,l1,l2,l3,l4] r) 128):=hm;have HT:Hid (Blk w k (thV t) 153):=ht;clear hm ht
 go_enter Tryz.func116,Tryz.ntmps116
 go_wp2
 go_region
 all_goals
  go_wp2;go_end0;have hm:=HM.out;have ht:=HT.out;exact⟨rfl,(((((hm.set 49 _).set 50 _).set 51 _).set 52 _).set 53 _).drew,(((((ht.other (a:=⟨b,49,none⟩) (by simp;omega) _).other (a:=⟨b,50,none⟩) (by simp;omega) _).other (a:=⟨b,51,none⟩) (by simp;omega) _).other (a:=⟨b,52,none⟩) (by simp;omega) _).other (a:=⟨b,53,none⟩) (by simp;omega) _).drew,((((((Chg.refl _ w).set (a:=⟨b,49,none⟩) (.inl (by simp)) _).set (a:=⟨b,50,none⟩) (.inl (by simp)) _).set (a:=⟨b,51,none⟩) (.inl (by simp)) _).set (a:=⟨b,52,none⟩) (.inl (by simp)) _).set (a:=⟨b,53,none⟩) (.inl (by simp)) _).drew⟩
end Go.Proofs.YtdgkpkdinfklaabGreat
