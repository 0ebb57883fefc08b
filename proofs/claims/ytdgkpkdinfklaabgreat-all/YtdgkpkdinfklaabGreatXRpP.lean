import Derived.Test.YtdgkpkdinfklaabGreatGSU
import Derived.Test.YtdgkpkdinfklaabGreatXSpI
import Derived.Test.YtdgkpkdinfklaabGreatGRPB
import Derived.Deep.RegionHeld
namespace Go.Proofs.YtdgkpkdinfklaabGreat
open Go.RowKit
theorem choF_rng(Z:Nat→Int)(ln:Nat):∀k l,chF Z ln k=some l→inU [65,66,67,68,69] l=true:=by
 intro k l h;rw[chF]at h
 split at h
 ·next hc=>
  have h6:=choN_lt (Z k);have:=Option.some.inj h;subst this;have h0:=hc.2;generalize choN (Z k)=m at h6 h0;have:m=1∨m=2∨m=3∨m=4∨m=5:=by omega
  rcases this with rfl|rfl|rfl|rfl|rfl<;>rfl
 ·cases h
theorem costL_lt(p:List UInt8):costL p=ltC p:=rfl
theorem costL_pos{p:List UInt8}(h:(60:UInt8)∈p):0<costL p:=by
 rw[costL]
 exact List.length_pos_iff.2 (fun e=>by
  have:(60:UInt8)∈p.filter (·==60):=List.mem_filter.2 ⟨h,rfl⟩
  rw[e]at this;cases this)
theorem costL_zero{p:List UInt8}(h:(60:UInt8)∉p):costL p=0:=by
 rw[costL,List.length_eq_zero_iff,List.filter_eq_nil_iff];intro x hx hxe;have:x=60:=by simpa using hxe
 rw[this]at hx;exact h hx
theorem RepIs.ok_of{s t:ByteArray}{a e:Int}(h:RepIs s t a e)(Z:Nat→Int)(ln:Nat):RepOk s t a e Z ln:=by
 rcases h with⟨b,h1,h2,h3,h4⟩|⟨b,h1,h2,h3,h4,h5⟩|⟨b,mks,h1,h2,h3,h4,h5,h6,h7⟩|⟨b,mks,ch,hc,ha,h60,h10,h200,hl,ht,he,hcase⟩
 ·exact .err b h1 h2 h3 h4
 ·exact .mend b h1 (costL_pos h2) h3 h4 h5
 ·exact .many b mks h1 h2 (costL_zero h3) h4 h5 h6 h7
 ·rcases hcase with⟨hp,ha1,hts⟩|⟨hp,ha2⟩
  ·exact .clean b mks hc ha (costL_zero h60) h10 h200 hp he ha1 hts
  ·have hfix:=least_fix hc ha h60 h10 h200 hl;rw[←ht]at hfix;obtain⟨⟨mt,mt1,mt2,mt3⟩,hfair,_,_,hstr,hlen⟩:=hfix;have htl:t.size≤240:=by rw[←len_eq];omega
   have hct:=chk_of htl mt1 mt2;obtain⟨_,hmd⟩:=chk_md hc;refine .fixed b mks hc ha (costL_zero h60) h10 h200 hp he ha2 (fun wx=>?_) ⟨0,mt,hct,mt1,mt3,hfair⟩ (fun r hr hm=>?_)
   ·refine(refStrip_any t wx (by unfold maxLen;omega)).mono ?_;rintro e' w' ⟨o,x,rfl,hst,rfl⟩;have hx:x=0:=by
     obtain⟨b',hb',_⟩:=hst;exact(hb'.unique hct).1
    subst hx;have:o=s:=bytes_ext (by rw[hst.stp,hstr]);rw[this];exact⟨rfl,rfl⟩
   ·obtain⟨b',mr,hcr,har,hpr,hfr⟩:=hm;obtain⟨hrl,mr',har',hnr⟩:=chk_ok hcr;have e:=acc_unique har har';subst e;rw[hr]at har hfr;have hg:=rival_good h60 hmd (choF_rng Z ln) har (by rw[←hr,len_eq];exact hrl) hnr hpr hfr;have:=hl.least _ hg;rw[costL_lt,costL_lt,ht,hr,lay_cost ch (ch_lt hl.rng) _ _ _ (Nat.le_refl _) h60,lay_cost _ (ch_lt (choF_rng Z ln)) _ _ _ (Nat.le_refl _) h60];exact this
theorem rep_size{s t:ByteArray}{a e:Int}(h:RepIs s t a e):t.size≤maxLen:=by
 have key:t.size≤1000:=by
  rcases h with⟨b,h1,h2,h3,h4⟩|⟨b,h1,h2,h3,h4,h5⟩|⟨b,mks,h1,h2,h3,h4,h5,h6,h7⟩|⟨b,mks,ch,hc,ha,h60,h10,h200,hl,ht,he,hcase⟩
  ·rw[h4];exact Nat.zero_le _
  ·rw[h5];exact Nat.zero_le _
  ·rw[h7];exact Nat.zero_le _
  ·have hfix:=least_fix hc ha h60 h10 h200 hl;rw[←ht]at hfix;have:=hfix.len;rw[len_eq]at this;omega
 unfold maxLen;omega
set_option maxHeartbeats 3200000 in
set_option maxRecDepth 100000 in
theorem lawRepair_any(s t:ByteArray)(la:Option Addr)(ln lc:Nat)(Z:Nat→Int)(w:World)(hs:s.size≤maxLen)(hl:ln≤maxLen)(hz:∀w',Below w.heap.size w w'→NumsAt w' la ln Z) :
  Calls Tryz.prog 16 #[.agg #[.int .i64 7,.string s,.string t,.slice la ln lc]] w fun e w'=>e=.returned (.bool true)∧Below w.heap.size w w':=by
 have HZ:Hid (∀w',Below w.heap.size w w'→NumsAt w' la ln Z):=hz;have B1:Hid (∀o,Below w.heap.size w (w.alloc o)):=fun o=>(Below.refl _ _).alloc (Nat.le_refl _) o
 clear hz;have HBX:Hid (∀W,Below (w.heap.size+1) (w.alloc (.cells #[.int .i64 7,.string s,.string t,.slice la ln lc] 32)) W→W.cell? ⟨w.heap.size,1,none⟩=some (.string s)∧W.cell? ⟨w.heap.size,3,none⟩=some (.slice la ln lc)):=fun W hW=>by
  have hb:Blk (w.alloc (.cells #[.int .i64 7,.string s,.string t,.slice la ln lc] 32)) w.heap.size [.int .i64 7,.string s,.string t,.slice la ln lc] 32:=heap_alloc_new _ _;have hb2:Blk W w.heap.size [.int .i64 7,.string s,.string t,.slice la ln lc] 32:=by
   show _=_;rw[hW.block w.heap.size (by omega)];exact hb
  exact⟨hb2.cell 1 _ rfl,hb2.cell 3 _ rfl⟩
 go_enter Tryz.func16,Tryz.ntmps16
 go_wp2_with fail
 have B1':=B1.out (.cells #[.int .i64 7,.string s,.string t,.slice la ln lc] 32);have HS0:(w.alloc (.cells #[.int .i64 7,.string s,.string t,.slice la ln lc] 32)).heap.size=w.heap.size+1:=by simp
 generalize w.alloc (.cells #[.int .i64 7,.string s,.string t,.slice la ln lc] 32)=w0 at B1' HS0 HBX ⊢;have HB0:Hid (Below w.heap.size w w0):=B1';clear B1' B1;refine(Repair_any s w0 hs).mono ?_;rintro e w1 ⟨a,t1,x,rfl,⟨hr1,hd1⟩,hb1⟩;have HR1:Hid (RepIs s t1 a x):=hr1;have HD1:Hid (RepD s t1 a x):=hd1;have HC1:Hid (Below (w.heap.size+1) w0 w1):=by rw[HS0]at hb1;exact hb1
 obtain⟨b1,b3⟩:=HBX.out w1 HC1.out;have hz1:w.heap.size+1≤w1.heap.size:=by have:=hb1.size;omega
 clear hr1 hd1 hb1
 go_wp2_with fail
 refine(Repair_any s w1 hs).mono ?_;rintro e w2 ⟨a2,t2,x2,rfl,⟨hr2,hd2⟩,hb2⟩;obtain⟨e1,e2,e3⟩:=HD1.out.unique hd2;subst e1 e2 e3;have HC2:Hid (Below (w.heap.size+1) w0 w2):=HC1.out.trans (hb2.mono hz1);have hz2:w.heap.size+1≤w2.heap.size:=by have:=hb2.size;omega
 have HBW:Hid (Below w.heap.size w w2):=HB0.out.trans (HC2.out.mono (by omega));have HNU:Hid (∀wx,Calls Tryz.prog 9 #[.int .i64 x] wx fun e w'=>e=.returned (.int .i64 x)∧w'=wx):=fun wx=>num_any x wx
 have HRP:Hid (∀wx,Below w2.heap.size w2 wx→Calls Tryz.prog 38 #[.string s,.int .i64 a,.string t1,.int .i64 x,.slice la ln lc] wx fun e w'=>e=.returned (.bool true)∧Below wx.heap.size wx w'):=fun wx hx=>
  refRepaired_ok s t1 a x wx la ln lc Z hl (fun w' hw'=>HZ.out w' (HBW.out.trans ((hx.trans (hw'.mono hx.size)).mono HBW.out.size))) hs (rep_size HR1.out) (HR1.out.ok_of Z ln)
 have HKP:Hid (∀W,Below w2.heap.size w2 W→W.cell? ⟨w.heap.size,1,none⟩=some (.string s)∧W.cell? ⟨w.heap.size,3,none⟩=some (.slice la ln lc)):=fun W hW=>HBX.out W (HC2.out.trans (hW.mono hz2))
 clear hr2 hd2 hb2 b1 b3 HBX
 go_wp2_with fail
 go_region_held (fun W=>W.cell? ⟨w.heap.size,1,none⟩=some (.string s)∧W.cell? ⟨w.heap.size,3,none⟩=some (.slice la ln lc)) (first|exact HKP.out _ (below_drewN' _ _ 1)|exact HKP.out _ hbx) (first
  | (go_at_call 9;refine(HNU.out _).mono ?_;rintro e w3 ⟨rfl,rfl⟩)
  | (go_at_call 38;refine(HRP.out _ (below_drewN' _ _ 1)).mono ?_;rintro e w3 ⟨rfl,hb3⟩;have hbx:Below w2.heap.size w2 w3:=(below_drewN' _ _ 1).trans hb3))
 all_goals
  have HBF:Hid (Below w.heap.size w w3):=HBW.out.trans (hbx.mono HBW.out.size);clear hb3 hbx
  go_wp2_with (go_at_call 9;refine(HNU.out _).mono ?_;rintro e w4 ⟨rfl,rfl⟩)
  go_ret;exact⟨rfl,HBF.out⟩
set_option maxHeartbeats 1600000 in
set_option maxRecDepth 100000 in
theorem plays_repair(bk:Nat)(s t:ByteArray)(la:Option Addr)(ln lc:Nat)(Z:Nat→Int)(w:World)(hs:s.size≤maxLen)(hl:ln≤maxLen)(hz:∀w',Below w.heap.size w w'→NumsAt w' la ln Z) :
  Calls Tryz.prog 5 #[.pointer (some ⟨bk,0,none⟩),.agg #[.int .i64 7,.string s,.string t,.slice la ln lc]] w fun e w'=>e=.returned (.bool true)∧Below w.heap.size w w':=by
 have HZ:Hid (∀w',Below w.heap.size w w'→NumsAt w' la ln Z):=hz;have B1:Hid (∀o,Below w.heap.size w (w.alloc o)):=fun o=>(Below.refl _ _).alloc (Nat.le_refl _) o
 clear hz
 go_enter Tryz.func5,Tryz.ntmps5
 go_wp2_with fail
 refine(lawRepair_any s t la ln lc Z _ hs hl (fun w' hw'=>HZ.out w' ((B1.out _).trans (hw'.mono (by simp))))).mono ?_;rintro e w1 ⟨rfl,hb⟩;have HB:Hid (Below w.heap.size w w1):=(B1.out _).trans (hb.mono (by simp));clear hb;go_wp2;go_ret;exact⟨rfl,HB.out⟩
end Go.Proofs.YtdgkpkdinfklaabGreat
