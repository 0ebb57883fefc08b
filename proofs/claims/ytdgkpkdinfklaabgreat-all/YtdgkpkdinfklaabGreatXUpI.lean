import Derived.Test.YtdgkpkdinfklaabGreatXOpen
import Derived.SizedLaws
namespace Go.Proofs.YtdgkpkdinfklaabGreat
open Go.ChangeShapes Go.WideShapes Go.ChangeAt Go.RowKit
theorem Tryz.bytesOp:Tryz.prog.bytesOf 32=64:=by kernel_rfl
set_option maxHeartbeats 1600000 in
set_option maxRecDepth 100000 in
theorem upto_idx(I:Nat→World→Prop)(b off len cap:Nat)(lo hi:Int)(K:Nat→Int)(S P:Nat→ByteArray)(L:Nat→Value)(w:World)(hlen:len≤maxLen)(hsc:Script w b off len K S P L)
  (h0:I 0 (w.alloc (.cells #[.slice none 0 0,.slice none 0 0] 29)))
  (hal:∀k W o,I k W→I k (W.alloc o))(hup:∀k W,I k W→I (k+1) W)(hbel:∀k W,I k W→Below w.heap.size w W)
  (hpl:∀j W,j<len→lo≤K j→K j≤hi→I j W→Calls Tryz.prog 5 #[.pointer (some ⟨w.heap.size,0,none⟩),.agg #[.int .i64 (K j),.string (S j),.string (P j),L j]] W fun e w'=>e=.returned (.bool true)∧I (j+1) w')
  (hho:∀k W,k≤len→I k W→Calls Tryz.prog 6 #[.pointer (some ⟨w.heap.size,0,none⟩)] W fun e w'=>e=.returned (.bool true)∧I k w') :
  Calls Tryz.prog 4 #[.slice (some ⟨b,off,none⟩) len cap,.int .i64 lo,.int .i64 hi] w fun e w'=>e=.returned (.int .i64 (-1))∧∃k,I k w':=by
 have SC:Hid (Script w b off len K S P L):=hsc;have AL:Hid (∀k W o,I k W→I k (W.alloc o)):=hal;have UP:Hid (∀k W,I k W→I (k+1) W):=hup;have BL:Hid (∀k W,I k W→Below w.heap.size w W):=hbel;have HP:Hid (∀j W,j<len→lo≤K j→K j≤hi→I j W→Calls Tryz.prog 5 #[.pointer (some ⟨w.heap.size,0,none⟩),.agg #[.int .i64 (K j),.string (S j),.string (P j),L j]] W fun e w'=>e=.returned (.bool true)∧I (j+1) w'):=hpl;have HH:Hid (∀k W,k≤len→I k W→Calls Tryz.prog 6 #[.pointer (some ⟨w.heap.size,0,none⟩)] W fun e w'=>e=.returned (.bool true)∧I k w'):=hho;clear hsc hal hup hbel hpl hho;unfold maxLen at hlen
 go_enter Tryz.func4,Tryz.ntmps4
 go_wp2
 go_loopw [8] (fun i wr=>∃k:Nat,k≤len∧i=.int .i64 k∧I k wr) (fun i _=>len-(intOf i).toNat)
 case atStart=>exact⟨0,Nat.zero_le _,rfl,h0⟩
 case round=>
  obtain⟨k,hk,rfl,hI⟩:=hrel
  by_cases hlt:k<len
  ·have hb:=SC.out.lt (by omega);have hbw:=BL.out _ _ hI;have q0:=(hbw.cell (p:=⟨b,off+k*4,none⟩) hb).trans (SC.out.c0 k hlt);have q1:=(hbw.cell (p:=⟨b,off+k*4+1,none⟩) hb).trans (SC.out.c1 k hlt);have q2:=(hbw.cell (p:=⟨b,off+k*4+2,none⟩) hb).trans (SC.out.c2 k hlt);have q3:=(hbw.cell (p:=⟨b,off+k*4+3,none⟩) hb).trans (SC.out.c3 k hlt);obtain⟨la,ln,lc,hL⟩:=SC.out.s2 k hlt;have HI:Hid (I k wr):=hI;have HL:Hid (L k=.slice la ln lc):=hL;rw[hL]at q3;clear hI hbw hL;have hI1:Hid (I k (wr.alloc (.cells #[.int .i64 (K k),.string (S k),.string (P k),.slice la ln lc] 32))):=AL.out _ _ _ HI.out
   by_cases h1:lo≤K k
   ·by_cases h2:K k≤hi
    ·go_wp2_with fail
     have hp:=HP.out k _ hlt h1 h2 hI1.out;rw[HL.out]at hp;refine hp.mono ?_;rintro e w1 ⟨rfl,hI2⟩;clear hp;have HI2:Hid (I (k+1) w1):=hI2;clear hI2
     go_wp2_with fail
     refine(HH.out _ _ (by omega) HI2.out).mono ?_;rintro e w2 ⟨rfl,hI3⟩;go_wp2
     go_roundw
     case rel=>exact⟨k+1,by omega,by go_num,hI3⟩
     case measure=>simp[intOf];omega
    ·have h2':decide (K k≤hi)=false:=by simpa using h2
     go_wp2
     go_roundw
     case rel=>exact⟨k+1,by omega,by go_num,UP.out _ _ hI1.out⟩
     case measure=>simp[intOf];omega
   ·have h1':decide (lo≤K k)=false:=by simpa using h1
    go_wp2
    go_roundw
    case rel=>exact⟨k+1,by omega,by go_num,UP.out _ _ hI1.out⟩
    case measure=>simp[intOf];omega
  ·go_wp2;go_ret;exact⟨rfl,k,hI⟩
end Go.Proofs.YtdgkpkdinfklaabGreat
