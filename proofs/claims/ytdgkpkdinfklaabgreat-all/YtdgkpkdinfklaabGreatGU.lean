import Derived.Test.YtdgkpkdinfklaabGreatRows
import Derived.Test.YtdgkpkdinfklaabGreatGD
import Derived.Test.YtdgkpkdinfklaabGreatGI
import Derived.Test.YtdgkpkdinfklaabGreatGE
import Derived.Test.YtdgkpkdinfklaabGreatGG
import Derived.Test.YtdgkpkdinfklaabGreatGK
namespace Go.Proofs.YtdgkpkdinfklaabGreat
def fwW(f:Nat→Nat→Bool):Nat→Nat→Nat→Bool
 | 0,i,j=>f i j
 | k+1,i,j=>fwW f k i j||(fwW f k i k&&fwW f k k j)
theorem fwW_col(f:Nat→Nat→Bool)(k i:Nat):fwW f (k+1) i k=fwW f k i k:=by
 rw[fwW];cases fwW f k i k<;>simp
theorem fwW_row(f:Nat→Nat→Bool)(k j:Nat):fwW f (k+1) k j=fwW f k k j:=by
 rw[fwW];cases fwW f k k j<;>simp
inductive WayN(N:Nat)(f:Nat→Nat→Bool):Nat→Nat→Prop
 | one {a b:Nat}:a<N→b<N→f a b=true→WayN N f a b
 | more {a b c:Nat}:WayN N f a b→c<N→f b c=true→WayN N f a c
theorem WayN.lt{N:Nat}{f:Nat→Nat→Bool}{a b:Nat}(h:WayN N f a b):a<N∧b<N:=by
 induction h with
 | one h1 h2 _=>exact⟨h1,h2⟩
 | more _ h2 _ ih=>exact⟨ih.1,h2⟩
theorem WayN.trans{N:Nat}{f:Nat→Nat→Bool}{a b c:Nat}(h:WayN N f a b)(h':WayN N f b c):WayN N f a c:=by
 induction h' with
 | one _ h2 h3=>exact .more h h2 h3
 | more _ h2 h3 ih=>exact .more ih h2 h3
theorem WayN.mono{N:Nat}{f g:Nat→Nat→Bool}{a b:Nat}(h:WayN N f a b)(hg:∀i j,i<N→j<N→f i j=true→g i j=true):WayN N g a b:=by
 induction h with
 | one h1 h2 h3=>exact .one h1 h2 (hg _ _ h1 h2 h3)
 | more h1 h2 h3 ih=>exact .more ih h2 (hg _ _ h1.lt.2 h2 h3)
theorem fwW_sound{N:Nat}{f:Nat→Nat→Bool}:∀k,k≤N→∀i j,i<N→j<N→fwW f k i j=true→WayN N f i j:=by
 intro k
 induction k with
 | zero=>intro _ i j hi hj h;exact .one hi hj h
 | succ k ih=>
  intro hk i j hi hj h;rw[fwW,Bool.or_eq_true,Bool.and_eq_true]at h;rcases h with h|⟨h1,h2⟩
  ·exact ih (by omega) i j hi hj h
  ·exact(ih (by omega) i k hi (by omega) h1).trans (ih (by omega) k j (by omega) hj h2)
theorem fwW_mono{f:Nat→Nat→Bool}{i j:Nat}(h:f i j=true):∀k,fwW f k i j=true:=by
 intro k
 induction k with
 | zero=>exact h
 | succ k ih=>rw[fwW,ih];rfl
theorem fwW_closed{f:Nat→Nat→Bool}:∀k m i j,m<k→fwW f k i m=true→fwW f k m j=true→fwW f k i j=true:=by
 intro k
 induction k with
 | zero=>intro m i j hm;omega
 | succ k ih=>
  intro m i j hm h1 h2
  by_cases hmk:m=k
  ·subst hmk;rw[fwW_col]at h1;rw[fwW_row]at h2;rw[fwW,h1,h2];simp
  ·have hm':m<k:=by omega
   rw[fwW,Bool.or_eq_true,Bool.and_eq_true]at h1 h2 ⊢;rcases h1 with h1|⟨h1,h1'⟩<;>rcases h2 with h2|⟨h2,h2'⟩
   ·exact .inl (ih m i j hm' h1 h2)
   ·exact .inr ⟨ih m i k hm' h1 h2,h2'⟩
   ·exact .inr ⟨h1,ih m k j hm' h1' h2⟩
   ·exact .inr ⟨h1,h2'⟩
theorem fwW_way{N:Nat}{f:Nat→Nat→Bool}{i j:Nat}:i<N→j<N→(fwW f N i j=true↔WayN N f i j):=by
 intro hi hj;constructor
 ·exact fwW_sound N (Nat.le_refl _) i j hi hj
 ·intro h
  induction h with
  | one h1 h2 h3=>exact fwW_mono h3 N
  | more h1 h2 h3 ih=>
   exact fwW_closed N _ _ _ h1.lt.2 (ih h1.lt.2) (fwW_mono h3 N)
open Go.RowKit
def lkB(m:MK)(a:UInt8):Bool:=(a==65&&m.h0)||(a==66&&m.h1)||(a==67&&m.h2)||(a==68&&m.h3)||(a==69&&m.h4)
def edgeB(a b:UInt8)(m:MK):Bool:=m.kind==3&&(m.num==(b.toNat:Int)-65&&lkB m a)
theorem lkB_mk{a:UInt8}(ha:inU [65,66,67,68,69] a=true)(kind place th num:Int)(now:List UInt8):lkB (mkN kind place th num now) a=inU now a:=by
 rw[inU_mem]at ha;simp only[List.mem_cons,List.not_mem_nil,or_false]at ha;rcases ha with rfl|rfl|rfl|rfl|rfl<;>simp[lkB,mkN]
theorem edge_mk{a b d:UInt8}(ha:inU [65,66,67,68,69] a=true)(place th:Int)(now:List UInt8):edgeB a b (mkN 3 place th ((d.toNat:Int)-65) now)=(d==b&&inU now a):=by
 have e:(mkN 3 place th ((d.toNat:Int)-65) now).num=(d.toNat:Int)-65:=rfl;have k:(mkN 3 place th ((d.toNat:Int)-65) now).kind=3:=rfl;rw[edgeB,lkB_mk ha,e,k,←u8q d b];have:((d.toNat:Int)-65==(b.toNat:Int)-65)=((d.toNat:Int)==(b.toNat:Int)):=by
  rw[Bool.eq_iff_iff];simp
 rw[this];rfl
theorem edge_acc{a b:UInt8}{kind place th num:Int}{now:List UInt8}(h:kind≠3):edgeB a b (mkN kind place th num now)=false:=by
 have k:(mkN kind place th num now).kind=kind:=rfl;rw[edgeB,k];have:(kind==3)=false:=by simpa using h
 rw[this];rfl
set_option maxHeartbeats 1600000 in
theorem edge_any (s : ByteArray) (mks : List MK) (a b : UInt8) (haa : inU [65, 66, 67, 68, 69] a = true) (w : World) (h : s.size ≤ 240) (ha : Acc s.data.toList mks) :
    Calls Tryz.prog 53 #[.string s, .int .u8 a.toNat, .int .u8 b.toNat] w fun e w' => e = .returned (.bool (mks.any (edgeB a b))) ∧ w' = w := by
  have HA : Hid (Acc s.data.toList mks) := ha
  have HAA : Hid (inU [65, 66, 67, 68, 69] a = true) := haa
  obtain ⟨R, hR⟩ : ∃ R, R = mks.any (edgeB a b) := ⟨_, rfl⟩
  rw [← hR]
  have HRR : Hid (R = mks.any (edgeB a b)) := hR
  clear ha haa hR
  go_enter Tryz.func53, Tryz.ntmps53
  go_wp2
  go_loop [7, 8] (fun nw i => ∃ (k j : Nat) (now : ByteArray), i = .int .i64 k ∧ nw = .string now ∧ (tw s.data.toList j).i = k ∧ (tw s.data.toList j).now = now.data.toList ∧ now.size ≤ k ∧ k ≤ s.size ∧ (tw s.data.toList j).mks.any (edgeB a b) = false) (fun _ i => s.size - (intOf i).toNat)
  case atStart => exact ⟨0, 0, ⟨#[]⟩, rfl, rfl, rfl, rfl, by decide, Nat.zero_le _, rfl⟩
  case round =>
    obtain ⟨k, j, now, rfl, rfl, hki, hkn, hns, hks, hfn⟩ := hrel
    by_cases hlt : k < s.size
    · have hlt' : (tw s.data.toList j).i < s.data.toList.length := by rw [hki, len_eq]; exact hlt
      have hc : s.data.toList[(tw s.data.toList j).i]? = some s[k] := by rw [hki]; exact byteAt s k hlt
      obtain ⟨t1, t2, t3, t4⟩ := tw_at hlt' hc
      obtain ⟨room, l, hl⟩ := acc_room HA.out hlt' hc
      rw [hki, len_eq] at room
      rw [hki] at t1 t2 t4
      rw [hkn] at t2 t4
      have hz := sizeU_pos s[k]
      have T1 : Hid ((tw s.data.toList (j + 1)).i = k + sizeU s[k]) := t1
      have T2 : Hid ((tw s.data.toList (j + 1)).now = heldU now.data.toList s.data.toList k) := t2
      have HFN : Hid ((tw s.data.toList j).mks.any (edgeB a b) = false) := hfn
      have HL : Hid (mks = (tw s.data.toList (j + 1)).mks ++ l) := hl
      have HLEN : Hid ((heldU now.data.toList s.data.toList k).length ≤ now.size + 1) := by
        have := heldU_len now.data.toList s.data.toList k
        rw [len_eq] at this; exact this
      have hsz2 : s[k] = 91 ∨ s[k] = 60 → k + 1 < s.size := by
        intro h'
        have : sizeU s[k] = 2 := by rcases h' with h' | h' <;> rw [h'] <;> rfl
        omega
      have HSZ2 : Hid (s[k] = 91 ∨ s[k] = 60 → k + 1 < s.size) := hsz2
      by_cases htk : s[k] = 91 ∨ s[k] = 60
      · have hk1 : k + 1 < s.size := hsz2 htk
        have hd : s.data.toList[k + 1]? = some s[k + 1] := byteAt s (k + 1) hk1
        rw [if_pos htk, hd] at t4
        simp only [Option.getD_some] at t4
        have HT4 : Hid ((tw s.data.toList (j + 1)).mks = (tw s.data.toList j).mks ++ [mkN 3 k (tw s.data.toList j).th ((s[k + 1].toNat : Int) - 65) now.data.toList]) := t4
        have HZ2 : Hid (sizeU s[k] = 2) := by rcases htk with h' | h' <;> rw [h'] <;> rfl
        clear t1 t2 t3 t4 hl hfn hki hkn hlt' hc hd hsz2 room hz
        have cont : Hid ((s[k + 1] == b && inU now.data.toList a) = false → (tw s.data.toList (j + 1)).mks.any (edgeB a b) = false) := by
          intro e
          rw [HT4.out, List.any_append, HFN.out]
          simp only [List.any_cons, List.any_nil, Bool.or_false, Bool.false_or]
          rw [edge_mk HAA.out]; exact e
        by_cases hdb : s[k + 1] = b
        · have bdb : ((s[k + 1].toNat : Int) == (b.toNat : Int)) = true := by rw [hdb]; simp
          cases hin : inU now.data.toList a with
          | true =>
            have HF : Hid (R = true) := by
              show R = true
              rw [HRR.out, HL.out, HT4.out, List.any_append, List.any_append]
              have : [mkN 3 k (tw s.data.toList j).th ((s[k + 1].toNat : Int) - 65) now.data.toList].any (edgeB a b) = true := by
                simp only [List.any_cons, List.any_nil, Bool.or_false]
                rw [edge_mk HAA.out, hin, hdb]; simp
              rw [this]; simp
            have HIN : Hid (inU now.data.toList a = true) := hin
            clear hin hdb
            by_cases h91 : s[k] = 91
            · have b91 : ((s[k].toNat : Int) == 91) = true := by rw [h91]; rfl
              clear h91 htk
              go_wp2_with fail
              refine (in_any now a _ (by unfold maxLen; omega)).mono ?_
              rintro e w' ⟨rfl, rfl⟩
              rw [HIN.out]
              go_wp2
              go_ret
              rw [HF.out]; exact ⟨rfl, rfl⟩
            · have b91 : ((s[k].toNat : Int) == 91) = false := u8g h91
              have b60 : ((s[k].toNat : Int) == 60) = true := by rcases htk with h' | h'; exact absurd h' h91; rw [h']; rfl
              clear h91 htk
              go_wp2_with fail
              refine (in_any now a _ (by unfold maxLen; omega)).mono ?_
              rintro e w' ⟨rfl, rfl⟩
              rw [HIN.out]
              go_wp2
              go_ret
              rw [HF.out]; exact ⟨rfl, rfl⟩
          | false =>
            have HFN2 := cont.out (by rw [hin]; simp)
            have HFN2' : Hid ((tw s.data.toList (j + 1)).mks.any (edgeB a b) = false) := HFN2
            have HIN : Hid (inU now.data.toList a = false) := hin
            clear hin hdb HFN2 cont
            by_cases h91 : s[k] = 91
            · have b91 : ((s[k].toNat : Int) == 91) = true := by rw [h91]; rfl
              clear h91 htk
              go_wp2_with fail
              refine (in_any now a _ (by unfold maxLen; omega)).mono ?_
              rintro e w' ⟨rfl, rfl⟩
              rw [HIN.out]
              go_wp2_with fail
              refine (held_any now s k _ (by omega) (by omega) hlt HSZ2.out).mono ?_
              rintro e w' ⟨g, rfl, hg, rfl⟩
              have HG : Hid (g.data.toList = heldU now.data.toList s.data.toList k) := hg
              clear hg
              go_wp2_with fail
              refine (size_any s[k] _).mono ?_
              rintro e w' ⟨rfl, rfl⟩
              rw [HZ2.out]
              go_wp2
              go_round
              case rel =>
                refine ⟨k + 2, j + 1, g, by go_num, rfl, by rw [T1.out, HZ2.out], by rw [T2.out, HG.out], ?_, by omega, HFN2'.out⟩
                have := HLEN.out
                rw [← HG.out, len_eq] at this
                omega
              case measure => simp [intOf]; omega
            · have b91 : ((s[k].toNat : Int) == 91) = false := u8g h91
              have b60 : ((s[k].toNat : Int) == 60) = true := by rcases htk with h' | h'; exact absurd h' h91; rw [h']; rfl
              clear h91 htk
              go_wp2_with fail
              refine (in_any now a _ (by unfold maxLen; omega)).mono ?_
              rintro e w' ⟨rfl, rfl⟩
              rw [HIN.out]
              go_wp2_with fail
              refine (held_any now s k _ (by omega) (by omega) hlt HSZ2.out).mono ?_
              rintro e w' ⟨g, rfl, hg, rfl⟩
              have HG : Hid (g.data.toList = heldU now.data.toList s.data.toList k) := hg
              clear hg
              go_wp2_with fail
              refine (size_any s[k] _).mono ?_
              rintro e w' ⟨rfl, rfl⟩
              rw [HZ2.out]
              go_wp2
              go_round
              case rel =>
                refine ⟨k + 2, j + 1, g, by go_num, rfl, by rw [T1.out, HZ2.out], by rw [T2.out, HG.out], ?_, by omega, HFN2'.out⟩
                have := HLEN.out
                rw [← HG.out, len_eq] at this
                omega
              case measure => simp [intOf]; omega
        · have bdb : ((s[k + 1].toNat : Int) == (b.toNat : Int)) = false := u8g hdb
          have HFN2 := cont.out (by have : (s[k + 1] == b) = false := by simpa using hdb
                                    rw [this]; rfl)
          have HFN2' : Hid ((tw s.data.toList (j + 1)).mks.any (edgeB a b) = false) := HFN2
          clear hdb HFN2 cont
          by_cases h91 : s[k] = 91
          · have b91 : ((s[k].toNat : Int) == 91) = true := by rw [h91]; rfl
            clear h91 htk
            go_wp2_with fail
            refine (held_any now s k _ (by omega) (by omega) hlt HSZ2.out).mono ?_
            rintro e w' ⟨g, rfl, hg, rfl⟩
            have HG : Hid (g.data.toList = heldU now.data.toList s.data.toList k) := hg
            clear hg
            go_wp2_with fail
            refine (size_any s[k] _).mono ?_
            rintro e w' ⟨rfl, rfl⟩
            rw [HZ2.out]
            go_wp2
            go_round
            case rel =>
              refine ⟨k + 2, j + 1, g, by go_num, rfl, by rw [T1.out, HZ2.out], by rw [T2.out, HG.out], ?_, by omega, HFN2'.out⟩
              have := HLEN.out
              rw [← HG.out, len_eq] at this
              omega
            case measure => simp [intOf]; omega
          · have b91 : ((s[k].toNat : Int) == 91) = false := u8g h91
            have b60 : ((s[k].toNat : Int) == 60) = true := by rcases htk with h' | h'; exact absurd h' h91; rw [h']; rfl
            clear h91 htk
            go_wp2_with fail
            refine (held_any now s k _ (by omega) (by omega) hlt HSZ2.out).mono ?_
            rintro e w' ⟨g, rfl, hg, rfl⟩
            have HG : Hid (g.data.toList = heldU now.data.toList s.data.toList k) := hg
            clear hg
            go_wp2_with fail
            refine (size_any s[k] _).mono ?_
            rintro e w' ⟨rfl, rfl⟩
            rw [HZ2.out]
            go_wp2
            go_round
            case rel =>
              refine ⟨k + 2, j + 1, g, by go_num, rfl, by rw [T1.out, HZ2.out], by rw [T2.out, HG.out], ?_, by omega, HFN2'.out⟩
              have := HLEN.out
              rw [← HG.out, len_eq] at this
              omega
            case measure => simp [intOf]; omega
      · have HFN2' : Hid ((tw s.data.toList (j + 1)).mks.any (edgeB a b) = false) := by
          show (tw s.data.toList (j + 1)).mks.any (edgeB a b) = false
          rw [t4, if_neg htk]
          split
          · rw [List.any_append, hfn]
            simp only [List.any_cons, List.any_nil, Bool.or_false, Bool.false_or]
            split <;> exact edge_acc (by decide)
          · exact hfn
        simp only [not_or] at htk
        have b91 : ((s[k].toNat : Int) == 91) = false := u8g htk.1
        have b60 : ((s[k].toNat : Int) == 60) = false := u8g htk.2
        obtain ⟨z, hzz⟩ : ∃ z, z = sizeU s[k] := ⟨_, rfl⟩
        have HZ : Hid (z = sizeU s[k]) := hzz
        rw [← hzz] at hz room
        clear htk t1 t2 t3 t4 hl hfn hki hkn hlt' hc hsz2 hzz
        go_wp2_with fail
        refine (held_any now s k _ (by omega) (by omega) hlt HSZ2.out).mono ?_
        rintro e w' ⟨g, rfl, hg, rfl⟩
        have HG : Hid (g.data.toList = heldU now.data.toList s.data.toList k) := hg
        clear hg
        go_wp2_with fail
        refine (size_any s[k] _).mono ?_
        rintro e w' ⟨rfl, rfl⟩
        rw [← HZ.out]
        go_wp2
        go_round
        case rel =>
          refine ⟨k + z, j + 1, g, by go_num, rfl, by rw [T1.out, HZ.out], by rw [T2.out, HG.out], ?_, by omega, HFN2'.out⟩
          have := HLEN.out
          rw [← HG.out, len_eq] at this
          omega
        case measure => simp [intOf]; omega
    · have HE : Hid (R = false) := by
        show R = false
        have := (acc_end HA.out (k := j) (by rw [hki, len_eq]; omega)).1
        rw [HRR.out, ← this, hfn]
      clear hki hkn hfn
      go_wp2
      go_ret
      rw [HE.out]; exact ⟨rfl, rfl⟩
def edgeN(mks:List MK)(i k:Nat):Bool:=mks.any (edgeB (UInt8.ofNat (65+i)) (UInt8.ofNat (65+k)))
def ordI(mks:List MK)(i:Nat):Nat→List UInt8
 | 0=>[]
 | k+1=>ordI mks i k++(if edgeN mks i k then [UInt8.ofNat (65+i),UInt8.ofNat (65+k)]else [])
def ordL(mks:List MK):Nat→List UInt8
 | 0=>[]
 | i+1=>ordL mks i++ordI mks i 5
theorem abcde(i:Nat)(h:i<5):(ByteArray.mk #[65,66,67,68,69])[i]'(by simpa[ByteArray.size]using h)=UInt8.ofNat (65+i)∧inU [65,66,67,68,69] (UInt8.ofNat (65+i))=true∧((ByteArray.mk #[65,66,67,68,69]).extract i (i+1)).data.toList=[UInt8.ofNat (65+i)]:=by
 have:i=0∨i=1∨i=2∨i=3∨i=4:=by omega
 rcases this with rfl|rfl|rfl|rfl|rfl<;>exact⟨rfl,by decide,rfl⟩
set_option maxHeartbeats 1600000 in
theorem order_any(s:ByteArray)(mks:List MK)(w:World)(h:s.size≤240)(ha:Acc s.data.toList mks) :
  Calls Tryz.prog 36 #[.string s] w fun e w'=>e=.returned (.string ⟨(ordL mks 5).toArray⟩)∧∃q,w'=w.drewN q:=by
 have HA:Hid (Acc s.data.toList mks):=ha;clear ha;obtain⟨F,hF⟩:∃F:ByteArray,F=⟨(ordL mks 5).toArray⟩:=⟨_,rfl⟩;rw[←hF];have HFF:Hid (F=⟨(ordL mks 5).toArray⟩):=hF;clear hF
 go_enter Tryz.func36,Tryz.ntmps36
 go_wp2
 go_loopw [3,4] (fun ov iv wr=>∃(i q:Nat) (o:ByteArray),i≤5∧iv=.int .i64 i∧ov=.string o∧o.size≤10*i∧o.data.toList=ordL mks i∧wr=w.drewN q) (fun _ iv _=>5-(intOf iv).toNat)
 case atStart=>exact⟨0,0,⟨#[]⟩,by omega,rfl,rfl,by decide,rfl,rfl⟩
 case round=>
  obtain⟨i,q,o,hi,rfl,rfl,hos,hod,rfl⟩:=hrel;have HO:Hid (o.data.toList=ordL mks i):=hod;clear hod
  by_cases hi5:i<5
  ·go_wp2
   go_loopw [3,5] (fun ov kv wr=>∃(k q:Nat) (o:ByteArray),k≤5∧kv=.int .i64 k∧ov=.string o∧o.size≤10*i+2*k∧o.data.toList=ordL mks i++ordI mks i k∧wr=w.drewN q) (fun _ kv _=>5-(intOf kv).toNat)
   case atStart=>exact⟨0,q,o,by omega,rfl,rfl,by omega,by rw[HO.out];simp[ordI],rfl⟩
   case round=>
    obtain⟨k,q,o,hk,rfl,rfl,hos,hod,hwr⟩:=hrel;have HWR:Hid (wr=w.drewN q):=hwr;clear hwr;have HO2:Hid (o.data.toList=ordL mks i++ordI mks i k):=hod;clear hod
    by_cases hk5:k<5
    ·obtain⟨ai,ain,aie⟩:=abcde i hi5;obtain⟨ak,akn,ake⟩:=abcde k hk5;obtain⟨A,hA⟩:∃A,A=UInt8.ofNat (65+i):=⟨_,rfl⟩;obtain⟨C,hC⟩:∃C,C=UInt8.ofNat (65+k):=⟨_,rfl⟩;rw[←hA]at ai ain aie;rw[←hC]at ak akn ake;obtain⟨ei,hei⟩:∃ei:ByteArray,ei=(ByteArray.mk #[65,66,67,68,69]).extract i (i+1):=⟨_,rfl⟩;obtain⟨ek,hek⟩:∃ek:ByteArray,ek=(ByteArray.mk #[65,66,67,68,69]).extract k (k+1):=⟨_,rfl⟩;rw[←hei]at aie;rw[←hek]at ake;have hei':=hei.symm;have hek':=hek.symm;have eis:ei.size=1:=by rw[←len_eq,aie];rfl
     have eks:ek.size=1:=by rw[←len_eq,ake];rfl
     obtain⟨r,hr⟩:∃r,r=edgeN mks i k:=⟨_,rfl⟩;have HE:Hid (∀wx,Calls Tryz.prog 53 #[.string s,.int .u8 (A.toNat:Int),.int .u8 (C.toNat:Int)] wx fun e w'=>e=.returned (.bool r)∧w'=wx):=by
      intro wx;have:=edge_any s mks A C ain wx h HA.out;rw[hr,edgeN,←hA,←hC];exact this
     have hb5:(ByteArray.mk #[65,66,67,68,69]).size=5:=rfl;have AIE:Hid (ei.data.toList=[A]):=aie;have AKE:Hid (ek.data.toList=[C]):=ake;cases hrr:r with
     | true=>
      have HN:Hid ((o++ei++ek).data.toList=ordL mks i++ordI mks i (k+1)):=by
       show(o++ei++ek).data.toList=_;rw[cat_data,cat_data,HO2.out,ordI,←hr,hrr,if_pos rfl,AIE.out,AKE.out,←hA,←hC];simp
      have hs2:(o++ei++ek).size≤10*i+2*(k+1):=by rw[ByteArray.size_append,ByteArray.size_append];omega
      rw[hrr]at HE;clear hr hrr hei hek hA hC ain akn aie ake;go_wp2
      go_quiet ((go_at_call 53;exact Calls.quiet_of_same (HE.out _)))
      go_wp2
      go_quiet (fail)
      go_wp2;exact⟨⟨k+1,_,o++ei++ek,by omega,by go_num,rfl,hs2,HN.out,by rw[HWR.out,World.drewN_drewN]⟩,by simp[intOf];omega⟩
     | false=>
      have HN:Hid (o.data.toList=ordL mks i++ordI mks i (k+1)):=by
       show o.data.toList=_;rw[HO2.out,ordI,←hr,hrr];simp
      rw[hrr]at HE;clear hr hrr hei hek hA hC ain akn aie ake;go_wp2
      go_quiet ((go_at_call 53;exact Calls.quiet_of_same (HE.out _)))
      go_wp2;exact⟨⟨k+1,_,o,by omega,by go_num,rfl,by omega,HN.out,by rw[HWR.out,World.drewN_drewN]⟩,by simp[intOf];omega⟩
    ·have hk':k=5:=by omega
     subst hk';have HN:Hid (o.data.toList=ordL mks (i+1)):=HO2.out;go_wp2;exact⟨⟨i+1,q,o,by omega,by go_num,rfl,by omega,HN.out,HWR.out⟩,by simp[intOf];omega⟩
  ·have hi':i=5:=by omega
   subst hi';have HV:Hid (o=F):=by
    show o=F;rw[HFF.out];apply ByteArray.ext;apply Array.toList_inj.1;rw[HO.out]
   go_wp2;go_ret;exact⟨by rw[←HV.out];rfl,_,rfl⟩
def OrdIs(s:ByteArray)(t:ByteArray)(a:Int):Prop:=
 (a≠0∧(∃b,ChkIs s a b)∧t=⟨#[]⟩)∨(a=0∧s.size≤240∧∃mks,Acc s.data.toList mks∧mks.find? nestB=none∧t=⟨(ordL mks 5).toArray⟩)
theorem chk_ok{s:ByteArray}{b:Int}(h:ChkIs s 0 b):s.size≤240∧∃mks,Acc s.data.toList mks∧mks.find? nestB=none:=by
 rcases h with⟨_,h,_⟩|⟨hl,⟨q,_,h,_⟩|⟨m,hm,h,_⟩⟩
 ·exact absurd h (by decide)
 ·exact absurd h (by decide)
 ·refine⟨hl,m,hm,?_⟩;rw[nestOf]at h
  split at h
  ·assumption
  ·exact absurd h (by simp)
def OrdOut(s:ByteArray)(w:World)(e:Ending)(w':World):Prop:=∃t a q,e=.returned (.tuple #[.string t,.int .i64 a])∧OrdIs s t a∧w'=w.drewN q
set_option maxHeartbeats 800000 in
theorem refOrder_any(s:ByteArray)(w:World)(hs:s.size≤maxLen) :
  Calls Tryz.prog 15 #[.string s] w fun e w'=>OrdOut s w e w':=by
 go_enter Tryz.func15,Tryz.ntmps15
 go_wp2_with fail
 refine(refCheck_any s _ hs).mono ?_;rintro e w' ⟨a,b,rfl,hc,rfl⟩
 by_cases ha:a=0
 ·subst ha;obtain⟨hl,mks,hm,hn⟩:=chk_ok hc;have HM:Hid (Acc s.data.toList mks):=hm;have HN:Hid (mks.find? nestB=none):=hn;clear hm hn hc
  go_wp2_with fail
  refine(order_any s mks _ hl HM.out).mono ?_;rintro e w2 ⟨rfl,q,rfl⟩;obtain⟨F,hF⟩:∃F:ByteArray,F=⟨(ordL mks 5).toArray⟩:=⟨_,rfl⟩;have HF:Hid (F=⟨(ordL mks 5).toArray⟩):=hF;rw[←hF];clear hF;go_wp2
  go_ret2
  exact⟨F,0,q,rfl,.inr ⟨rfl,hl,mks,HM.out,HN.out,HF.out⟩,rfl⟩
 ·have ha':(a != 0)=true:=by simpa using ha
  have HC:Hid (ChkIs s a b):=hc;clear hc;go_wp2
  go_ret2
  exact⟨⟨#[]⟩,a,0,rfl,.inl ⟨ha,⟨b,HC.out⟩,rfl⟩,rfl⟩
def hOfS(s:ST):Nat→Bool
 | 0=>s.h0
 | 1=>s.h1
 | 2=>s.h2
 | 3=>s.h3
 | _=>s.h4
def edS(F:List ST)(i k:Nat):Bool:=F.any fun s=>s.kind==6&&(s.num==(k:Int)&&hOfS s i)
theorem lkB_of(m:MK)(i:Nat)(h:i<5):lkB m (UInt8.ofNat (65+i))=hOf m i:=by
 have:i=0∨i=1∨i=2∨i=3∨i=4:=by omega
 rcases this with rfl|rfl|rfl|rfl|rfl<;>simp[lkB,hOf]
theorem edS_mks(F:List ST)(i k:Nat)(hi:i<5)(hk:k<5):edgeN (mksS F) i k=edS F i k:=by
 rw[edgeN,edS,mksS,List.any_filterMap]
 congr 1
 funext s
 have e:((UInt8.ofNat (65+k)).toNat:Int)-65=(k:Int):=by rw[ofNat_toNat k hk];omega
 have h5:i=0∨i=1∨i=2∨i=3∨i=4:=by omega
 by_cases h6:s.kind=6
 ·simp only[mkS,h6,if_true,edgeB,e];rw[lkB_of _ i hi];rcases h5 with rfl|rfl|rfl|rfl|rfl<;>simp[hOf,hOfS]
 ·have h6':(s.kind==6)=false:=by simpa using h6
  by_cases h1:s.kind=1∨s.kind=2
  ·have h3:(s.kind==3)=false:=by simp;omega
   simp[mkS,h6,h1,edgeB,h3]
  ·simp[mkS,h6,h1]
def OV(f:Nat→Nat→Bool)(l:List Value):Prop:=l.length=25∧∀i k,i<5→k<5→l[i*5+k]?=some (.bool (f i k))
theorem OV.set{f g:Nat→Nat→Bool}{l:List Value}(h:OV f l)(a b:Nat)(ha:a<5)(hb:b<5)(x:Bool)(hg:∀i k,i<5→k<5→g i k=if i=a∧k=b then x else f i k):OV g (l.set (a*5+b) (.bool x)):=by
 refine⟨by simpa using h.1,fun i k hi hk=>?_⟩;rw[List.getElem?_set,hg i k hi hk]
 by_cases e:i=a∧k=b
 ·rw[if_pos (by omega),if_pos e,if_pos (by have:=h.1;omega)]
 ·rw[if_neg (by omega),if_neg e];exact h.2 i k hi hk
theorem OV.congr{f g:Nat→Nat→Bool}{l:List Value}(h:OV f l)(hg:∀i k,i<5→k<5→g i k=f i k):OV g l:=⟨h.1,fun i k hi hk=>by rw[hg i k hi hk];exact h.2 i k hi hk⟩
def OrderOut(F:List ST)(e:Ending):Prop:=∃l:List Value,e=.returned (.agg l.toArray)∧OV (edS F) l
theorem edS_snoc{F:List ST}{j:Nat}{m:ST}(h:F[j]?=some m)(i k:Nat):edS (F.take (j+1)) i k=(edS (F.take j) i k||(m.kind==6&&(m.num==(k:Int)&&hOfS m i))):=by
 obtain⟨hk,rfl⟩:=List.getElem?_eq_some_iff.1 h;rw[List.take_succ_eq_append_getElem hk,edS,List.any_append];simp[edS]
theorem Tryz.infoOrder:(Tryz.prog.info? 78).map (·.size)=some 25:=by kernel_rfl
theorem OV.one{f:Nat→Nat→Bool}{l:List Value}(h:OV f l):l.toArray.all (·.oneCell')=true:=by
 refine all_oneCell_toArray fun v hv=>?_
 obtain⟨q,hq⟩:=List.getElem?_of_mem hv;have hl:q<25:=by have:=(List.getElem?_eq_some_iff.1 hq).1;rw[h.1]at this;exact this
 have:=h.2 (q / 5) (q%5) (by omega) (by omega);rw[show q / 5*5+q%5=q by omega,hq]at this;cases this;rfl
def Z25:List Value:=List.replicate 25 (.bool false)
theorem OV.zero{f:Nat→Nat→Bool}(hf:∀i k,i<5→k<5→f i k=false):OV f Z25:=⟨by simp[Z25],fun i k hi hk=>by rw[hf i k hi hk,Z25,List.getElem?_replicate,if_pos (by omega)]⟩
def addF(f:Nat→Nat→Bool)(h:Nat→Bool)(lk:Int)(a b:Nat):Bool:=f a b||(h a&&lk==(b:Int))
set_option maxHeartbeats 1600000 in
set_option maxRecDepth 100000 in
theorem ordAdd_any(k:Nat)(l:List Value)(f:Nat→Nat→Bool)(h0 h1 h2 h3 h4:Bool)(h:Nat→Bool)(hh:h 0=h0∧h 1=h1∧h 2=h2∧h 3=h3∧h 4=h4)(lk:Int)(w:World)(hb:Blk w k l 78)(ho:OV f l) :
  Calls Tryz.prog 52 #[.pointer (some ⟨k,0,none⟩),.agg #[.bool h0,.bool h1,.bool h2,.bool h3,.bool h4],.int .i64 lk] w fun e w'=>e=.returned (.tuple #[])∧(∃l',OV (addF f h lk) l'∧Blk w' k l' 78)∧Chg [k] w w':=by
 have HB:Hid (Blk w k l 78):=hb;have HO:Hid (OV f l):=ho;have HH:Hid (h 0=h0∧h 1=h1∧h 2=h2∧h 3=h3∧h 4=h4):=hh;have hkl:=hb.lt;clear hb ho hh;have HC:Hid (∀o,Chg [k] w (w.alloc o)):=fun o=>(Chg.refl _ w).alloc o
 by_cases hlo:lk<0
 ·have b0:decide (lk<0)=true:=by simpa using hlo
  have HR:Hid (OV (addF f h lk) l):=HO.out.congr fun i j _ _=>by
   have:(lk==(j:Int))=false:=by simp;omega
   rw[addF,this];simp
  clear hlo
  go_enter Tryz.func52,Tryz.ntmps52
  go_wp2
  (try simp only[Exit.inBlock,Exit.then])
  refine bodyPost_ret (results_none rfl _ _ _) rfl ?_;exact⟨rfl,⟨l,HR.out,HB.out.alloc _⟩,HC.out _⟩
 ·by_cases hhi:5≤lk
  ·have b0:decide (lk<0)=false:=by simpa using hlo
   have b5:decide (5≤lk)=true:=by simpa using hhi
   have HR:Hid (OV (addF f h lk) l):=HO.out.congr fun i j _ _=>by
    have:(lk==(j:Int))=false:=by simp;omega
    rw[addF,this];simp
   clear hlo hhi
   go_enter Tryz.func52,Tryz.ntmps52
   go_wp2
   (try simp only[Exit.inBlock,Exit.then])
   refine bodyPost_ret (results_none rfl _ _ _) rfl ?_;exact⟨rfl,⟨l,HR.out,HB.out.alloc _⟩,HC.out _⟩
  ·obtain⟨q,rfl⟩:∃q:Nat,lk=q:=⟨lk.toNat,by omega⟩;have hq:q<5:=by omega
   have b0:decide ((q:Int)<0)=false:=by simp
   have b5:decide (5≤(q:Int))=false:=by simp;omega
   clear hlo hhi
   go_enter Tryz.func52,Tryz.ntmps52
   go_wp2
   go_loopw [6] (fun iv W2=>∃(i:Nat) (l':List Value),i≤5∧iv=.int .i64 i∧OV (fun a b=>f a b||(decide (a<i)&&(b==q&&h a))) l'∧Blk W2 k l' 78∧Blk W2 w.heap.size [.bool h0,.bool h1,.bool h2,.bool h3,.bool h4] 76∧Chg [k] w W2) (fun iv _=>5-(intOf iv).toNat)
   case atStart=>exact⟨0,l,by omega,rfl,HO.out.congr (fun a b _ _=>by simp),HB.out.alloc _,heap_alloc_new _ _,HC.out _⟩
   case round=>
    obtain⟨i,l',hi,rfl,hov,hblk,hst,hbe⟩:=hrel;have HOV2:Hid (OV (fun a b=>f a b||(decide (a<i)&&(b==q&&h a))) l'):=hov;have HBK2:Hid (Blk wr k l' 78):=hblk;have HBE2:Hid (Chg [k] w wr):=hbe;have HST:Hid (Blk wr w.heap.size [.bool h0,.bool h1,.bool h2,.bool h3,.bool h4] 76):=hst;clear hov hblk hbe hst
    by_cases hi5:i<5
    ·have ch:wr.cell? ⟨w.heap.size,i,none⟩=some (.bool (h i)):=by
      obtain⟨e0,e1,e2,e3,e4⟩:=HH.out;refine HST.out.cell i _ ?_;have:i=0∨i=1∨i=2∨i=3∨i=4:=by omega
      rcases this with rfl|rfl|rfl|rfl|rfl
      ·rw[e0];rfl
      ·rw[e1];rfl
      ·rw[e2];rfl
      ·rw[e3];rfl
      ·rw[e4];rfl
     have co:=HBK2.out.cell (i*5+q) _ (HOV2.out.2 i q hi5 hq);have fo:=HBK2.out.fz (i*5+q);have hi5':(i:Int)<5:=by omega
     have hq':(q:Int)<5:=by omega
     cases hh:h i with
     | true=>
      rw[hh]at ch;have N1:Hid (OV (fun a b=>f a b||(decide (a<i+1)&&(b==q&&h a))) (l'.set (i*5+q) (.bool true))):=by
       refine HOV2.out.set i q hi5 hq true fun a b ha hb=>?_
       by_cases e:a=i∧b=q
       ·obtain⟨rfl,rfl⟩:=e;simp[hh]
       ·rw[if_neg e]
        by_cases eb:b=q
        ·have:(decide (a<i+1))=decide (a<i):=by
          have:a≠i:=fun h=>e ⟨h,eb⟩
          rw[decide_eq_decide];omega
         rw[this]
        ·have:(b==q)=false:=by simpa using eb
         rw[this];simp
      clear hh;go_wp2;exact⟨⟨i+1,_,by omega,by go_num,N1.out,HBK2.out.set _ _,HST.out.other (by simp;omega) _,HBE2.out.set (.inl (by simp)) _⟩,by simp[intOf];omega⟩
     | false=>
      rw[hh]at ch;have N1:Hid (OV (fun a b=>f a b||(decide (a<i+1)&&(b==q&&h a))) l'):=by
       refine HOV2.out.congr fun a b ha hb=>?_
       by_cases e:a=i
       ·subst e;simp[hh]
       ·have:(decide (a<i+1))=decide (a<i):=by rw[decide_eq_decide];omega
        rw[this]
      clear hh;go_wp2;exact⟨⟨i+1,l',by omega,by go_num,N1.out,HBK2.out,HST.out,HBE2.out⟩,by simp[intOf];omega⟩
    ·have hi':i=5:=by omega
     subst hi';have N2:Hid (OV (addF f h q) l'):=by
      refine HOV2.out.congr fun a b ha hb=>?_
      have:decide (a<5)=true:=by simpa using ha
      rw[addF,this];have:((q:Int)==(b:Int))=(b==q):=by rw[Bool.eq_iff_iff];simp;omega
      rw[this,Bool.true_and,Bool.and_comm (h a)]
     go_wp2;go_end0;exact⟨rfl,⟨l',N2.out,HBK2.out⟩,HBE2.out⟩
set_option maxHeartbeats 1600000 in
set_option maxRecDepth 100000 in
theorem leads_any(l:List Value)(f:Nat→Nat→Bool)(h0 h1 h2 h3 h4:Bool)(h:Nat→Bool)(hh:h 0=h0∧h 1=h1∧h 2=h2∧h 3=h3∧h 4=h4)(lk:Int)(w:World)(ho:OV f l)(r:Bool)(hr:r=true↔0≤lk∧lk<5∧∃t,t<5∧f lk.toNat t=true∧h t=true) :
  Calls Tryz.prog 130 #[.agg l.toArray,.int .i64 lk,.agg #[.bool h0,.bool h1,.bool h2,.bool h3,.bool h4]] w fun e w'=>e=.returned (.bool r)∧Below w.heap.size w w':=by
 have HO:Hid (OV f l):=ho;have hl:l.length=25:=ho.1;have HR:Hid (r=true↔0≤lk∧lk<5∧∃t,t<5∧f lk.toNat t=true∧h t=true):=hr;have HH:Hid (h 0=h0∧h 1=h1∧h 2=h2∧h 3=h3∧h 4=h4):=hh;have B1:Hid (∀o o',Below w.heap.size w ((w.alloc o).alloc o')):=fun o o'=>((Below.refl _ _).alloc (Nat.le_refl _) o).alloc (by simp) o'
 clear ho hr hh
 by_cases hlo:lk<0
 ·have b0:decide (lk<0)=true:=by simpa using hlo
  have HF:Hid (r=false):=by
   cases h:r with
   | false=>rfl
   | true=>have:=HR.out.1 h;omega
  clear hlo
  go_enter Tryz.func130,Tryz.ntmps130
  go_wp2;go_ret;rw[HF.out];exact⟨rfl,B1.out _ _⟩
 ·by_cases hhi:5≤lk
  ·have b0:decide (lk<0)=false:=by simpa using hlo
   have b5:decide (5≤lk)=true:=by simpa using hhi
   have HF:Hid (r=false):=by
    cases h:r with
    | false=>rfl
    | true=>have:=HR.out.1 h;omega
   clear hlo hhi
   go_enter Tryz.func130,Tryz.ntmps130
   go_wp2;go_ret;rw[HF.out];exact⟨rfl,B1.out _ _⟩
  ·obtain⟨q,rfl⟩:∃q:Nat,lk=q:=⟨lk.toNat,by omega⟩;have hq:q<5:=by omega
   have b0:decide ((q:Int)<0)=false:=by simp
   have b5:decide (5≤(q:Int))=false:=by simp;omega
   have HQ:Hid (r=true↔∃t,t<5∧f q t=true∧h t=true):=by
    show r=true↔_;rw[HR.out];constructor
    ·rintro⟨_,_,t,h1,h2,h3⟩;exact⟨t,h1,by simpa using h2,h3⟩
    ·rintro⟨t,h1,h2,h3⟩;exact⟨by omega,by omega,t,h1,by simpa using h2,h3⟩
   clear hlo hhi HR;have HB1:Hid (∀o',Blk ((w.alloc (.cells l.toArray 78)).alloc o') w.heap.size l 78):=fun o'=>Blk.alloc (heap_alloc_new _ _) o'
   have HB2:Hid (∀o,Blk ((w.alloc o).alloc (.cells #[.bool h0,.bool h1,.bool h2,.bool h3,.bool h4] 76)) (w.heap.size+1) [.bool h0,.bool h1,.bool h2,.bool h3,.bool h4] 76):=fun o=>by
    have e:(w.alloc o).heap.size=w.heap.size+1:=by simp
    rw[←e];exact heap_alloc_new _ _
   go_enter Tryz.func130,Tryz.ntmps130
   go_wp2
   go_loopw [7] (fun iv wr=>∃(i k:Nat),i≤5∧iv=.int .i64 i∧wr=((w.alloc (.cells l.toArray 78)).alloc (.cells #[.bool h0,.bool h1,.bool h2,.bool h3,.bool h4] 76)).drewN k∧∀t,t<i→¬(f q t=true∧h t=true)) (fun iv _=>5-(intOf iv).toNat)
   case atStart=>exact⟨0,0,by omega,rfl,rfl,fun t ht=>by omega⟩
   case round=>
    obtain⟨i,k,hi,rfl,rfl,hno⟩:=hrel;have HNO:Hid (∀t,t<i→¬(f q t=true∧h t=true)):=hno;clear hno;have HBB:=B1.out (.cells l.toArray 78) (.cells #[.bool h0,.bool h1,.bool h2,.bool h3,.bool h4] 76);have hk1:=HB1.out (.cells #[.bool h0,.bool h1,.bool h2,.bool h3,.bool h4] 76);have hk2:=HB2.out (.cells l.toArray 78);generalize (w.alloc (.cells l.toArray 78)).alloc (.cells #[.bool h0,.bool h1,.bool h2,.bool h3,.bool h4] 76)=W at HBB hk1 hk2 ⊢;have HW:Hid (Below w.heap.size w W):=HBB;clear HBB
    by_cases hi5:i<5
    ·have ch:W.cell? ⟨w.heap.size+1,i,none⟩=some (.bool (h i)):=by
      obtain⟨e0,e1,e2,e3,e4⟩:=HH.out;refine hk2.cell i _ ?_;have:i=0∨i=1∨i=2∨i=3∨i=4:=by omega
      rcases this with rfl|rfl|rfl|rfl|rfl
      ·rw[e0];rfl
      ·rw[e1];rfl
      ·rw[e2];rfl
      ·rw[e3];rfl
      ·rw[e4];rfl
     have co:=hk1.cell (q*5+i) _ (HO.out.2 q i hq hi5);have hi5':(i:Int)<5:=by omega
     have hq':(q:Int)<5:=by omega
     clear hk1 hk2;have HNX:Hid (¬(f q i=true∧h i=true)→∀t,t<i+1→¬(f q t=true∧h t=true)):=fun hn t ht=>by
      by_cases e:t=i
      ·rw[e];exact hn
      ·exact HNO.out t (by omega)
     have HT:Hid (f q i=true∧h i=true→r=true):=fun hx=>HQ.out.2 ⟨i,hi5,hx.1,hx.2⟩
     generalize f q i=x at co HNX HT;generalize h i=y at ch HNX HT;cases x<;>cases y
     all_goals
      go_wp2
      first
       | exact⟨⟨i+1,_,by omega,by go_num,rfl,HNX.out (by decide)⟩,by simp[intOf];omega⟩
       | (go_ret;rw[HT.out (by decide)];exact⟨rfl,HW.out.trans (below_drewN' _ _ _)⟩)
    ·have HF:Hid (r=false):=by
      cases h:r with
      | false=>rfl
      | true=>
       obtain⟨t,t1,t2,t3⟩:=HQ.out.1 h;exact absurd ⟨t2,t3⟩ (HNO.out t (by omega))
     go_wp2;go_ret;rw[HF.out];exact⟨rfl,HW.out.trans (below_drewN' _ _ _)⟩
def fwM(f:Nat→Nat→Bool)(k i j:Nat)(a b:Nat):Bool:=if a<i∨(a=i∧b<j)then fwW f (k+1) a b else fwW f k a b
theorem fwM_col(f:Nat→Nat→Bool)(k i j a:Nat):fwM f k i j a k=fwW f k a k:=by
 rw[fwM];split
 ·exact fwW_col f k a
 ·rfl
theorem fwM_row(f:Nat→Nat→Bool)(k i j b:Nat):fwM f k i j k b=fwW f k k b:=by
 rw[fwM];split
 ·exact fwW_row f k b
 ·rfl
set_option maxHeartbeats 1600000 in
set_option maxRecDepth 100000 in
theorem ways_any(l:List Value)(f:Nat→Nat→Bool)(w:World)(ho:OV f l) :
  Calls Tryz.prog 129 #[.agg l.toArray] w fun e w'=>(∃l':List Value,e=.returned (.agg l'.toArray)∧OV (fwW f 5) l')∧Below w.heap.size w w':=by
 have HO:Hid (OV f l):=ho;have hl:l.length=25:=ho.1;have hl1:l.toArray.all (·.oneCell')=true:=ho.one;obtain⟨W0,hW0⟩:∃W0,W0=(w.alloc (.cells l.toArray 78)).alloc (.cells Z25.toArray 78):=⟨_,rfl⟩;have HW0:Hid (W0=(w.alloc (.cells l.toArray 78)).alloc (.cells Z25.toArray 78)):=hW0;have B1:Hid (Below w.heap.size w W0):=by show Below _ _ _;rw[hW0];exact((Below.refl _ _).alloc (Nat.le_refl _) _).alloc (by simp) _
 have hW0s:W0.heap.size=w.heap.size+2:=by rw[hW0];simp
 have HZ0:Hid (Blk W0 (w.heap.size+1) Z25 78):=by
  show Blk _ _ _ _;have e:(w.alloc (.cells l.toArray 78)).heap.size=w.heap.size+1:=by simp
  rw[hW0,←e];exact heap_alloc_new _ _
 have HL0:Hid (Blk W0 w.heap.size l 78):=by
  show Blk _ _ _ _;rw[hW0];exact Blk.alloc (heap_alloc_new _ _) _
 clear ho hW0
 go_enter Tryz.func129,Tryz.ntmps129
 go_wp2
 go_loopw [3] (fun iv wr=>∃(k:Nat) (l':List Value),k≤5∧iv=.int .i64 k∧OV (fwW f k) l'∧Blk wr w.heap.size l' 78∧Chg [w.heap.size] W0 wr) (fun iv _=>5-(intOf iv).toNat)
 case atStart=>
  have e1:=HL0.out;have e2:=Chg.refl [w.heap.size] W0;refine⟨0,l,by omega,rfl,HO.out,?_,?_⟩
  ·rw[HW0.out]at e1;exact e1
  ·rw[HW0.out]at e2 ⊢;exact e2
 case round=>
  obtain⟨k,l1,hk,rfl,hov,hblk,hbe⟩:=hrel;have HOV:Hid (OV (fwW f k) l1):=hov;have HBK:Hid (Blk wr w.heap.size l1 78):=hblk;have HBE:Hid (Chg [w.heap.size] W0 wr):=hbe;clear hov hblk hbe
  by_cases hk5:k<5
  ·have hk5':(k:Int)<5:=by omega
   have hkd:decide ((k:Int)<5)=true:=by simp;omega
   obtain⟨wa,rfl⟩:∃wa,wa=wr:=⟨_,rfl⟩;go_wp2
   go_loopw [4] (fun iv wr=>∃(i:Nat) (l':List Value),i≤5∧iv=.int .i64 i∧OV (fwM f k i 0) l'∧Blk wr w.heap.size l' 78∧Chg [w.heap.size] W0 wr) (fun iv _=>5-(intOf iv).toNat)
   case atStart=>exact⟨0,l1,by omega,rfl,HOV.out.congr (fun a b _ _=>by rw[fwM,if_neg (by omega)]),HBK.out,HBE.out⟩
   case round=>
    obtain⟨i,l2,hi,rfl,hov,hblk,hbe⟩:=hrel;have HOV2:Hid (OV (fwM f k i 0) l2):=hov;have HBK2:Hid (Blk wr w.heap.size l2 78):=hblk;have HBE2:Hid (Chg [w.heap.size] W0 wr):=hbe;clear hov hblk hbe
    by_cases hi5:i<5
    ·have hi5':(i:Int)<5:=by omega
     have hid:decide ((i:Int)<5)=true:=by simp;omega
     obtain⟨wb,rfl⟩:∃wb,wb=wr:=⟨_,rfl⟩;go_wp2
     go_loopw [5] (fun iv wr=>∃(j:Nat) (l':List Value),j≤5∧iv=.int .i64 j∧OV (fwM f k i j) l'∧Blk wr w.heap.size l' 78∧Chg [w.heap.size] W0 wr) (fun iv _=>5-(intOf iv).toNat)
     case atStart=>exact⟨0,l2,by omega,rfl,HOV2.out,HBK2.out,HBE2.out⟩
     case round=>
      obtain⟨j,l3,hj,rfl,hov,hblk,hbe⟩:=hrel;have HOV3:Hid (OV (fwM f k i j) l3):=hov;have HBK3:Hid (Blk wr w.heap.size l3 78):=hblk;have HBE3:Hid (Chg [w.heap.size] W0 wr):=hbe;clear hov hblk hbe
      by_cases hj5:j<5
      ·have c1:=HBK3.out.cell (i*5+k) _ (HOV3.out.2 i k hi5 hk5);have c2:=HBK3.out.cell (k*5+j) _ (HOV3.out.2 k j hk5 hj5);have c3:=HBK3.out.cell (i*5+j) _ (HOV3.out.2 i j hi5 hj5);have f3:=HBK3.out.fz (i*5+j);rw[fwM_col]at c1;rw[fwM_row]at c2;have hj5':(j:Int)<5:=by omega
       have HV:Hid (∀a b,a<5→b<5→fwM f k i (j+1) a b=if a=i∧b=j then(fwW f k i j||(fwW f k i k&&fwW f k k j))else fwM f k i j a b):=by
        intro a b _ _
        by_cases e:a=i∧b=j
        ·obtain⟨rfl,rfl⟩:=e;rw[if_pos ⟨rfl,rfl⟩,fwM,if_pos (by omega),fwW]
        ·rw[if_neg e,fwM,fwM]
         by_cases e2:a<i∨(a=i∧b<j)
         ·rw[if_pos e2,if_pos (by omega)]
         ·rw[if_neg e2,if_neg (by omega)]
       have HOld:Hid (fwM f k i j i j=fwW f k i j):=by
        show _=_;rw[fwM,if_neg (by omega)]
       have HSet:Hid ((fwW f k i k&&fwW f k k j)=true→OV (fwM f k i (j+1)) (l3.set (i*5+j) (.bool true))):=fun hx=>by
        refine HOV3.out.set i j hi5 hj5 true fun a b ha hb=>?_
        rw[HV.out a b ha hb,hx];simp
       have HNo:Hid ((fwW f k i k&&fwW f k k j)=false→OV (fwM f k i (j+1)) l3):=fun hx=>by
        refine HOV3.out.congr fun a b ha hb=>?_
        rw[HV.out a b ha hb,hx]
        split
        ·next e=>rw[e.1,e.2,HOld.out];simp
        ·rfl
       generalize fwW f k i k=x at c1 HSet HNo;generalize fwW f k k j=y at c2 HSet HNo;clear HV HOld;cases x<;>cases y
       all_goals
        go_wp2
        first
         | exact⟨⟨j+1,_,by omega,by go_num,HNo.out (by decide),HBK3.out,HBE3.out⟩,by simp[intOf];omega⟩
         | exact⟨⟨j+1,_,by omega,by go_num,HSet.out (by decide),HBK3.out.set _ _,HBE3.out.set (.inl (by simp)) _⟩,by simp[intOf];omega⟩
      ·have HN:Hid (OV (fwM f k (i+1) 0) l3):=HOV3.out.congr fun a b ha hb=>by
        rw[fwM,fwM]
        by_cases e:a<i+1
        ·rw[if_pos (.inl e),if_pos (by omega)]
        ·rw[if_neg (by omega),if_neg (by omega)]
       go_wp2;exact⟨⟨i+1,l3,by omega,by go_num,HN.out,HBK3.out,HBE3.out⟩,by simp[intOf];omega⟩
    ·have HN:Hid (OV (fwW f (k+1)) l2):=HOV2.out.congr fun a b ha hb=>by
      rw[fwM,if_pos (by omega)]
     go_wp2;exact⟨⟨k+1,l2,by omega,by go_num,HN.out,HBK2.out,HBE2.out⟩,by simp[intOf];omega⟩
  ·have hk':k=5:=by omega
   subst hk';have HX:Hid (Blk wr (w.heap.size+1) Z25 78):=HZ0.out.chg HBE.out (by simp);have hXl:l1.length=25:=HOV.out.1;have hX1:l1.toArray.all (·.oneCell')=true:=HOV.out.one;have W2b:Hid (Blk (wr.setCells (w.heap.size+1) 0 l1) (w.heap.size+1) l1 78):=by
    have:=setCells_blk l1 Z25 0 HX.out (by rw[hXl];rfl);show Blk _ _ _ _;simpa[Z25,hXl]using this
   have W2c:Hid (Below w.heap.size w (wr.setCells (w.heap.size+1) 0 l1)):=by
    have h1:Below w.heap.size w wr:=B1.out.trans (HBE.out.below (by simp) (by omega));have hs:w.heap.size+1≤wr.heap.size:=by have:=HBE.out.size;omega
    exact h1.trans ((setCells_chg wr (w.heap.size+1) l1 0 wr (Chg.refl _ _)).below (by simp) (by omega))
   go_wp2_with (first
    | refine wpList_load_mid (by rfl) 78 (.tmp 1) (by rfl) w.heap.size 0 (by rfl) l1 _ HBK.out.range Tryz.underlying78 (by rfl) (by rw[hXl];exact Tryz.infoOrder) ?_
    | refine wpList_store_mid (by rfl) 78 (.tmp 2) (.tmp 34) (by rfl) (w.heap.size+1) 0 l1.toArray (by rfl) (by rfl) (by have:=HX.out.there;rw[show Z25.length=l1.toArray.size by rw[List.size_toArray,hXl];rfl]at this;exact this) (by rw[List.size_toArray,hXl];exact Tryz.infoOrder) hX1 ?_)
   (try simp only[Exit.inBlock,Exit.then])
   refine bodyPost_ret (v:=.agg l1.toArray) ?_ rfl ⟨⟨l1,rfl,HOV.out⟩,W2c.out⟩;rw[results_cell rfl];have:=run_loadVar_mid (P:=Tryz.prog) _ (w.heap.size+1) 0 78 l1 _ W2b.out.range Tryz.underlying78 (by rfl) (by rw[hXl];exact Tryz.infoOrder);show((asAddr (.pointer (some ⟨w.heap.size+1,0,none⟩))).run Tryz.prog _).andThen (fun a w₁=>(loadVar 78 a).run Tryz.prog w₁)=_;simp[asAddr,Result.andThen,this]
set_option maxHeartbeats 1600000 in
set_option maxRecDepth 100000 in
theorem orderOf_any(B:Nat)(am:Option Addr)(cm:Nat)(F:List ST)(w:World)(h:w.ownsRow B 88 12 (.slice am F.length cm) F.length (stsV F))(hlen:F.length≤1000) :
  Calls Tryz.prog 34 #[.slice am F.length cm] w fun e w'=>OrderOut F e∧Below w.heap.size w w':=by
 have HM:Hid (w.ownsRow B 88 12 (.slice am F.length cm) F.length (stsV F)):=h;clear h;obtain⟨n,hn⟩:∃n,n=F.length:=⟨_,rfl⟩;have HN:Hid (n=F.length):=hn;rw[←hn]at hlen ⊢;clear hn;have B1:Hid (∀o,Below w.heap.size w (w.alloc o)):=fun o=>(Below.refl _ _).alloc (Nat.le_refl _) o
 obtain⟨w0,hw0⟩:∃w0,w0=w.alloc (.cells Z25.toArray 78):=⟨_,rfl⟩;have hs0:w0.heap.size=w.heap.size+1:=by rw[hw0];simp
 have HZ:Hid (Blk w0 w.heap.size Z25 78):=by show Blk _ _ _ _;rw[hw0];exact heap_alloc_new _ _
 have HM0:Hid (w0.ownsRow B 88 12 (.slice am F.length cm) F.length (stsV F)):=by show World.ownsRow _ _ _ _ _ _ _;rw[hw0];exact HM.out.alloc _
 have HB0:Hid (Below w.heap.size w w0):=by show Below _ _ _;rw[hw0];exact B1.out _
 have HW0:Hid (w0=w.alloc (.cells Z25.toArray 78)):=hw0;clear hw0
 go_enter Tryz.func34,Tryz.ntmps34
 go_wp2
 go_loopw [4] (fun iv wr=>∃(j:Nat) (l:List Value),j≤n∧iv=.int .i64 j∧OV (edS (F.take j)) l∧Blk wr (w.heap.size+1) l 78∧Below (w.heap.size+1) w0 wr) (fun iv _=>n-(intOf iv).toNat)
 case atStart=>
  refine⟨0,Z25,Nat.zero_le _,rfl,.zero (fun _ _ _ _=>rfl),?_,?_⟩
  ·have e:(w.alloc (.cells Z25.toArray 78)).heap.size=w.heap.size+1:=by simp
   rw[←e];exact heap_alloc_new _ _
  ·have:=(Below.refl (w.heap.size+1) w0).alloc (by omega) (.cells Z25.toArray 78);rw[HW0.out]at this ⊢;exact this
 case round=>
  obtain⟨j,l,hj,rfl,hov,hblk,hbe⟩:=hrel;have hm':=ownsRow_later HM0.out (by rw[hs0];exact hbe);have hsz:=hbe.size;rw[hs0]at hsz;have hob:=hblk.lt;have HOV:Hid (OV (edS (F.take j)) l):=hov;have HBK:Hid (Blk wr (w.heap.size+1) l 78):=hblk;have HBE:Hid (Below (w.heap.size+1) w0 wr):=hbe;clear hov hblk hbe
  by_cases hlt:j<n
  ·obtain⟨m,hm⟩:∃m,F[j]?=some m:=⟨F[j]'(by rw[←HN.out];exact hlt),List.getElem?_eq_getElem _⟩;obtain⟨g,cap',hv,hb,_⟩:=HM.out.form (by rw[←HN.out];omega);cases hv;have q0:=markAt (n:=0) hm' j m hm 0 (by decide) _ rfl rfl;have q3:=markAt (n:=0) hm' j m hm 3 (by decide) _ rfl rfl;have q7:=markAt (n:=0) hm' j m hm 7 (by decide) _ rfl rfl;have q8:=markAt (n:=0) hm' j m hm 8 (by decide) _ rfl rfl;have q9:=markAt (n:=0) hm' j m hm 9 (by decide) _ rfl rfl;have q10:=markAt (n:=0) hm' j m hm 10 (by decide) _ rfl rfl;have q11:=markAt (n:=0) hm' j m hm 11 (by decide) _ rfl rfl;rw[Nat.add_zero]at q0;have HS:Hid (∀i k,edS (F.take (j+1)) i k=(edS (F.take j) i k||(m.kind==6&&(m.num==(k:Int)&&hOfS m i)))):=edS_snoc hm;clear hm hm'
   by_cases h6:m.kind=6
   ·have b6:(m.kind==6)=true:=by simpa using h6
    have HY:Hid (∀i k,edS (F.take (j+1)) i k=addF (edS (F.take j)) (hOfS m) m.num i k):=by
     intro i k;rw[HS.out,b6,addF,Bool.true_and,Bool.and_comm (m.num==_)]
    clear h6 HS
    go_wp2_with fail
    go_region_with (
     go_at_call 52
     refine(ordAdd_any (w.heap.size+1) l (edS (F.take j)) m.h0 m.h1 m.h2 m.h3 m.h4 (hOfS m) ⟨rfl,rfl,rfl,rfl,rfl⟩ m.num _ (HBK.out.drewN _) HOV.out).mono ?_
     rintro e w1 ⟨rfl,⟨l',hov',hbk'⟩,hc'⟩)
    all_goals
     have HO1:Hid (OV (edS (F.take (j+1))) l'):=hov'.congr fun i k _ _=>HY.out i k
     have HK1:Hid (Blk w1 (w.heap.size+1) l' 78):=hbk';have HB1:Hid (Below (w.heap.size+1) w0 w1):=HBE.out.trans ((below_drewN' _ _ _).trans (hc'.below (by simp) (by simp;omega)));clear hov' hbk' hc';go_wp2;exact⟨⟨j+1,l',by omega,by go_num,HO1.out,HK1.out,HB1.out⟩,by simp[intOf];omega⟩
   ·have b6:(m.kind==6)=false:=by simpa using h6
    have HY:Hid (OV (edS (F.take (j+1))) l):=HOV.out.congr fun i k _ _=>by rw[HS.out,b6];simp
    clear h6 HS;go_wp2;exact⟨⟨j+1,l,by omega,by go_num,HY.out,HBK.out,HBE.out⟩,by simp[intOf];omega⟩
  ·have hjn:F.take j=F:=List.take_of_length_le (by rw[←HN.out];omega);rw[hjn]at HOV;have HX:Hid (Blk wr w.heap.size Z25 78):=by
    show _=_;rw[HBE.out.block w.heap.size (by omega)];exact HZ.out
   have hXl:l.length=25:=HOV.out.1;have hX1:l.toArray.all (·.oneCell')=true:=HOV.out.one;have W2b:Hid (Blk (wr.setCells w.heap.size 0 l) w.heap.size l 78):=by
    have:=setCells_blk l Z25 0 HX.out (by rw[hXl];rfl);show Blk _ _ _ _;simpa[Z25,hXl]using this
   have W2c:Hid (Below w.heap.size w (wr.setCells w.heap.size 0 l)):=by
    have h1:Below w.heap.size w wr:=HB0.out.trans (HBE.out.mono (by omega));exact h1.trans ((setCells_chg wr w.heap.size l 0 wr (Chg.refl _ _)).below (by simp) (by omega))
   clear hjn hm'
   go_wp2_with (first
    | refine wpList_load_mid (by rfl) 78 (.tmp 3) (by rfl) (w.heap.size+1) 0 (by rfl) l _ HBK.out.range Tryz.underlying78 (by rfl) (by rw[hXl];exact Tryz.infoOrder) ?_
    | refine wpList_store_mid (by rfl) 78 (.tmp 2) (.tmp 28) (by rfl) w.heap.size 0 l.toArray (by rfl) (by rfl) (by have:=HX.out.there;rw[show Z25.length=l.toArray.size by rw[List.size_toArray,hXl];rfl]at this;exact this) (by rw[List.size_toArray,hXl];exact Tryz.infoOrder) hX1 ?_)
   (try simp only[Exit.inBlock,Exit.then])
   refine bodyPost_ret (v:=.agg l.toArray) ?_ rfl ⟨⟨l,rfl,HOV.out⟩,W2c.out⟩;rw[results_cell rfl];have:=run_loadVar_mid (P:=Tryz.prog) _ w.heap.size 0 78 l _ W2b.out.range Tryz.underlying78 (by rfl) (by rw[hXl];exact Tryz.infoOrder);show((asAddr (.pointer (some ⟨w.heap.size,0,none⟩))).run Tryz.prog _).andThen (fun a w₁=>(loadVar 78 a).run Tryz.prog w₁)=_;simp[asAddr,Result.andThen,this]
def ordIf(f:Nat→Nat→Bool)(i:Nat):Nat→List UInt8
 | 0=>[]
 | k+1=>ordIf f i k++(if f i k then [UInt8.ofNat (65+i),UInt8.ofNat (65+k)]else [])
def ordLf(f:Nat→Nat→Bool):Nat→List UInt8
 | 0=>[]
 | i+1=>ordLf f i++ordIf f i 5
theorem ordIf_eq(F:List ST)(i k:Nat)(hi:i<5)(hk:k≤5):ordIf (edS F) i k=ordI (mksS F) i k:=by
 induction k with
 | zero=>rfl
 | succ k ih=>rw[ordIf,ordI,ih (by omega),edS_mks F i k hi (by omega)]
theorem ordLf_eq(F:List ST)(i:Nat)(hi:i≤5):ordLf (edS F) i=ordL (mksS F) i:=by
 induction i with
 | zero=>rfl
 | succ i ih=>rw[ordLf,ordL,ih (by omega),ordIf_eq F i 5 (by omega) (by omega)]
theorem ordIf_len(f:Nat→Nat→Bool)(i k:Nat):(ordIf f i k).length≤2*k:=by
 induction k with
 | zero=>exact Nat.le_refl _
 | succ k ih=>rw[ordIf];split<;>simp<;>omega
theorem ordLf_len(f:Nat→Nat→Bool)(i:Nat):(ordLf f i).length≤10*i:=by
 induction i with
 | zero=>exact Nat.le_refl _
 | succ i ih=>have:=ordIf_len f i 5;rw[ordLf,List.length_append];omega
set_option maxHeartbeats 1600000 in
set_option maxRecDepth 100000 in
theorem names_any(f:Nat→Nat→Bool)(l:List Value)(w:World)(h:OV f l) :
  Calls Tryz.prog 35 #[.agg l.toArray] w fun e w'=>e=.returned (.string ⟨(ordLf f 5).toArray⟩)∧Below w.heap.size w w':=by
 obtain⟨i0,hi0,hz0,hz1,hz2⟩:=info_parts Tryz.infoByte;have HOV:Hid (OV f l):=h;clear h;have HC:Hid (∀i k,i<5→k<5→(w.alloc (.cells l.toArray 78)).cell? ⟨w.heap.size,i*5+k,none⟩=some (.bool (f i k))):=by
  intro i k hi hk;rw[World.cell?_alloc_at _ _ _ _ rfl];simpa using HOV.out.2 i k hi hk
 obtain⟨w0,hw0⟩:∃w0,w0=w.alloc (.cells l.toArray 78):=⟨_,rfl⟩;rw[←hw0]at HC;have hs0:w0.heap.size=w.heap.size+1:=by rw[hw0];simp
 have HB0:Hid (Below w.heap.size w w0):=by show Below _ _ _;rw[hw0];exact(Below.refl _ _).alloc (Nat.le_refl _) _
 have HW0:Hid (w0=w.alloc (.cells l.toArray 78)):=hw0;clear hw0
 go_enter Tryz.func35,Tryz.ntmps35
 go_wp2
 go_loopw [3,4] (fun v iv wr=>∃i:Nat,i≤5∧iv=.int .i64 i∧wr.ownsRow (w.heap.size+1) 5 1 v (ordLf f i).length (byV (ordLf f i))∧Below (w.heap.size+1) w0 wr) (fun _ iv _=>5-(intOf iv).toNat)
 case atStart=>exact⟨0,by omega,rfl,World.ownsRow_nil _ _ _ _,by rw[←HW0.out];exact Below.refl _ _⟩
 case round=>
  obtain⟨i,hi,rfl,hown,hbe⟩:=hrel;have HO:Hid (wr.ownsRow (w.heap.size+1) 5 1 u3 (ordLf f i).length (byV (ordLf f i))):=hown;have HB:Hid (Below (w.heap.size+1) w0 wr):=hbe;clear hown hbe
  by_cases hi5:i<5
  ·obtain⟨wa,rfl⟩:∃wa,wa=wr:=⟨_,rfl⟩;have hii:decide ((i:Int)<5)=true:=by simp;omega
   go_wp2
   go_loopw [3,5] (fun v kv wr=>∃k:Nat,k≤5∧kv=.int .i64 k∧wr.ownsRow (w.heap.size+1) 5 1 v (ordLf f i++ordIf f i k).length (byV (ordLf f i++ordIf f i k))∧Below (w.heap.size+1) w0 wr) (fun _ kv _=>5-(intOf kv).toNat)
   case atStart=>exact⟨0,by omega,rfl,by simpa[ordIf]using HO.out,HB.out⟩
   case round=>
    obtain⟨k,hk,rfl,hown,hbe⟩:=hrel;have HO2:Hid (wr.ownsRow (w.heap.size+1) 5 1 u3 (ordLf f i++ordIf f i k).length (byV (ordLf f i++ordIf f i k))):=hown;have HB2:Hid (Below (w.heap.size+1) w0 wr):=hbe;have hsz:=hbe.size;rw[hs0]at hsz;clear hown hbe
    by_cases hk5:k<5
    ·have hc:=(HB2.out.cell (p:=⟨w.heap.size,i*5+k,none⟩) (by simp)).trans (HC.out i k hi5 hk5);have hl:(ordLf f i++ordIf f i k).length≤100:=by
      have h1:=ordLf_len f i;have h2:=ordIf_len f i k;rw[List.length_append];omega
     cases hf:f i k with
     | true=>
      rw[hf]at hc;obtain⟨L,hL⟩:∃L,L=ordLf f i++ordIf f i k:=⟨_,rfl⟩;have HN:Hid (ordLf f i++ordIf f i (k+1)=L++[UInt8.ofNat (65+i),UInt8.ofNat (65+k)]):=by
       show _=_;rw[ordIf,hf,if_pos rfl,hL,List.append_assoc]
      have HU:Hid (byV [UInt8.ofNat (65+i),UInt8.ofNat (65+k)]=[.int .u8 (65+(i:Int)),.int .u8 (65+(k:Int))]):=by
       show _=_;simp only[byV,List.map_cons,List.map_nil];rw[ofNat_toNat i hi5,ofNat_toNat k hk5]
      rw[←hL]at HO2 hl;clear hL hf
      go_wp2_with (at_builtin;refine wpList_append_own _ rfl (.tmp 19) (.tmp 26) 91 rfl (w.heap.size+1) 5 i0 _ 1 1 Tryz.underlying91 hi0 hz0 hz1 hz2 rfl (by decide) u3 L.length (byV L) rfl (HO2.out.alloc _) ⟨wr.heap.size,0,none⟩ 2 2 [.int .u8 (65+(i:Int)),.int .u8 (65+(k:Int))] rfl rfl ?hnews ?h1 ?h63 ?hby ?hbase ?next)
      case hnews=>exact World.news_of_block (heap_alloc_new _ _)
      case h1=>intro u hu;simp at hu;rcases hu with rfl|rfl<;>rfl
      case h63=>unfold maxLen;omega
      case hby=>omega
      case hbase=>simp;omega
      case next=>
       intro v' w1 hown1 hgrow _;have B3:Hid (Below (w.heap.size+1) w0 w1):=(HB2.out.alloc (by omega) _).grown hgrow (by simp;omega) (fun q hq=>(HO2.out.lt q hq).1);have HO3:Hid (w1.ownsRow (w.heap.size+1) 5 1 v' (ordLf f i++ordIf f i (k+1)).length (byV (ordLf f i++ordIf f i (k+1)))):=by
        show World.ownsRow _ _ _ _ _ _ _;rw[HN.out,show byV (L++[UInt8.ofNat (65+i),UInt8.ofNat (65+k)])=byV L++byV [UInt8.ofNat (65+i),UInt8.ofNat (65+k)] by simp only[byV,List.map_append],HU.out,List.length_append];exact hown1
       clear hown1 hgrow;go_wp2;exact⟨⟨k+1,by omega,by go_num,HO3.out,B3.out⟩,by simp[intOf];omega⟩
     | false=>
      rw[hf]at hc;have HN:Hid (ordLf f i++ordIf f i (k+1)=ordLf f i++ordIf f i k):=by
       show _=_;rw[ordIf,hf];simp
      clear hf;go_wp2;exact⟨⟨k+1,by omega,by go_num,by rw[HN.out];exact HO2.out,HB2.out⟩,by simp[intOf];omega⟩
    ·have hk':k=5:=by omega
     subst hk';have HN:Hid (wr.ownsRow (w.heap.size+1) 5 1 u3 (ordLf f (i+1)).length (byV (ordLf f (i+1)))):=HO2.out;go_wp2;exact⟨⟨i+1,by omega,by go_num,HN.out,HB2.out⟩,by simp[intOf];omega⟩
  ·have hi':i=5:=by omega
   subst hi';have HBW:Hid (Below w.heap.size w wr):=HB0.out.trans (HB.out.mono (by omega));obtain⟨L,hL⟩:∃L,L=ordLf f 5:=⟨_,rfl⟩;have HL:Hid (L=ordLf f 5):=hL;rw[←hL]at HO;have hl:L.length≤100:=by have:=ordLf_len f 5;rw[hL];omega
   clear hL;rcases HO.out.2 with⟨hv,hn0⟩|⟨gb,cap,cur,hv,_⟩
   ·have ho:L=[]:=List.eq_nil_of_length_eq_zero hn0;subst hv;subst ho;have hcv:=fun(wx:World)=>run_convert_bytes_nil (P:=Tryz.prog) wx 91 5 Tryz.underlying91 Tryz.underlying5 0 0 9 Tryz.underlying9
    go_wp2;go_ret;exact⟨by rw[←HL.out];rfl,HBW.out⟩
   ·subst hv
    have hcv:=run_convert_bytes_back (P:=Tryz.prog) wr 91 9 5 ⟨gb,0,none⟩ cap L Tryz.underlying91 Tryz.underlying5 Tryz.underlying9 (fun j hj=>by
     rw[addr_at];have:=HO.out.cellAt j (by omega);rw[this]
     simp[byV,List.getElem?_eq_getElem hj])
    go_wp2;go_ret;exact⟨by rw[←HL.out];rfl,HBW.out⟩
set_option maxHeartbeats 800000 in
theorem Order_any(s:ByteArray)(w:World)(hs:s.size≤maxLen) :
  Calls Tryz.prog 14 #[.string s] w fun e w'=>∃t a,e=.returned (.tuple #[.string t,.int .i64 a])∧OrdIs s t a∧Below w.heap.size w w':=by
 go_enter Tryz.func14,Tryz.ntmps14
 go_wp2_with fail
 refine(read_any s w hs).mono ?_;intro e w1 hout;obtain⟨hb,v,a,b,rfl,hc,hcase⟩:=hout.says;clear hout;rcases hcase with⟨ha,rfl⟩|⟨rfl,hz,am,cm,F,rfl,hst,hnest,hown⟩
 ·have ha':(a != 0)=true:=by simpa using ha
  have HH:Hid (OrdIs s ⟨#[]⟩ a):=.inl ⟨ha,⟨b,hc⟩,rfl⟩;clear hc ha;go_wp2
  go_ret2
  exact⟨⟨#[]⟩,a,rfl,HH.out,hb⟩
 ·have hF:=hst.len;rw[len_eq]at hF;obtain⟨hl,mks,hm,hn⟩:=chk_ok hc;have hmm:mks=mksS F:=acc_unique hm hst.acc;subst hmm;have HH:Hid (OrdIs s ⟨(ordLf (edS F) 5).toArray⟩ 0):=by
   rw[show ordLf (edS F) 5=ordL (mksS F) 5 from ordLf_eq F 5 (Nat.le_refl _)];exact .inr ⟨rfl,hz,_,hm,hn,rfl⟩
  clear hst hc hm hn hnest
  go_wp2_with fail
  refine(orderOf_any w.heap.size am cm F w1 hown (by omega)).mono ?_;rintro e w2 ⟨⟨l,rfl,hov⟩,hb2⟩;have HB:Hid (Below w.heap.size w w2):=hb.trans (hb2.mono hb.size);have HOV:Hid (OV (edS F) l):=hov;clear hown hb hb2 hov;have hXl:l.length=25:=HOV.out.1;have hX1:l.toArray.all (·.oneCell')=true:=HOV.out.one;have HX:Hid (Blk (w2.alloc (.cells #[.bool false,.bool false,.bool false,.bool false,.bool false,.bool false,.bool false,.bool false,.bool false,.bool false,.bool false,.bool false,.bool false,.bool false,.bool false,.bool false,.bool false,.bool false,.bool false,.bool false,.bool false,.bool false,.bool false,.bool false,.bool false] 78)) w2.heap.size Z25 78):=heap_alloc_new _ _;have hz3:(w2.alloc (.cells #[.bool false,.bool false,.bool false,.bool false,.bool false,.bool false,.bool false,.bool false,.bool false,.bool false,.bool false,.bool false,.bool false,.bool false,.bool false,.bool false,.bool false,.bool false,.bool false,.bool false,.bool false,.bool false,.bool false,.bool false,.bool false] 78)).there w2.heap.size 0 l.toArray.size:=by
   have:=HX.out.there;rw[show Z25.length=l.toArray.size by rw[List.size_toArray,hXl];rfl]at this;exact this
  have hs3:=HB.out.size;have HB3:Hid (Below w.heap.size w ((w2.alloc (.cells #[.bool false,.bool false,.bool false,.bool false,.bool false,.bool false,.bool false,.bool false,.bool false,.bool false,.bool false,.bool false,.bool false,.bool false,.bool false,.bool false,.bool false,.bool false,.bool false,.bool false,.bool false,.bool false,.bool false,.bool false,.bool false] 78)).setCells w2.heap.size 0 l)):=by
   have h1:Below w.heap.size w (w2.alloc (.cells #[.bool false,.bool false,.bool false,.bool false,.bool false,.bool false,.bool false,.bool false,.bool false,.bool false,.bool false,.bool false,.bool false,.bool false,.bool false,.bool false,.bool false,.bool false,.bool false,.bool false,.bool false,.bool false,.bool false,.bool false,.bool false] 78)):=by exact HB.out.alloc hs3 _
   exact h1.trans ((setCells_chg (w2.alloc (.cells #[.bool false,.bool false,.bool false,.bool false,.bool false,.bool false,.bool false,.bool false,.bool false,.bool false,.bool false,.bool false,.bool false,.bool false,.bool false,.bool false,.bool false,.bool false,.bool false,.bool false,.bool false,.bool false,.bool false,.bool false,.bool false] 78)) w2.heap.size l 0 (w2.alloc (.cells #[.bool false,.bool false,.bool false,.bool false,.bool false,.bool false,.bool false,.bool false,.bool false,.bool false,.bool false,.bool false,.bool false,.bool false,.bool false,.bool false,.bool false,.bool false,.bool false,.bool false,.bool false,.bool false,.bool false,.bool false,.bool false] 78)) (Chg.refl _ _)).below (by simpa using hs3) h1.size)
  have HB4:Hid (Blk ((w2.alloc (.cells #[.bool false,.bool false,.bool false,.bool false,.bool false,.bool false,.bool false,.bool false,.bool false,.bool false,.bool false,.bool false,.bool false,.bool false,.bool false,.bool false,.bool false,.bool false,.bool false,.bool false,.bool false,.bool false,.bool false,.bool false,.bool false] 78)).setCells w2.heap.size 0 l) w2.heap.size l 78):=by
   have:=setCells_blk l Z25 0 HX.out (by rw[hXl];rfl);show Blk _ _ _ _;simpa[Z25,hXl]using this
  go_wp2_with (first
   | (refine wpList_store_mid (by rfl) 78 (.tmp 7) (.tmp 18) (by rfl) w2.heap.size 0 l.toArray (by rfl) (by rfl) hz3 (by rw[List.size_toArray,hXl];exact Tryz.infoOrder) hX1 ?_)
   | refine wpList_load_mid (by rfl) 78 (.tmp 7) (by rfl) w2.heap.size 0 (by rfl) l _ HB4.out.range Tryz.underlying78 (by rfl) (by rw[hXl];exact Tryz.infoOrder) ?_
   | fail)
  refine(names_any (edS F) l _ HOV.out).mono ?_;rintro e w4 ⟨rfl,hb4⟩;have HB5:Hid (Below w.heap.size w w4):=HB3.out.trans (hb4.mono HB3.out.size);obtain⟨T,hT⟩:∃T:ByteArray,T=⟨(ordLf (edS F) 5).toArray⟩:=⟨_,rfl⟩;rw[←hT]at HH ⊢;clear hb4 hT;go_wp2
  go_ret2
  exact⟨T,0,rfl,HH.out,HB5.out⟩
theorem OrdIs.unique{s t t':ByteArray}{a a':Int}(h:OrdIs s t a)(h':OrdIs s t' a'):t=t'∧a=a':=by
 have nn:∀{a:Int} {mks:List MK},a≠0→(∃b,ChkIs s a b)→s.size≤240→Acc s.data.toList mks→mks.find? nestB=none→False:=by
  rintro a mks ha ⟨b,hc⟩ hz hm hn;have h0:ChkIs s 0 0:=.inr ⟨hz,.inr ⟨mks,hm,by simp[nestOf,hn],by simp[nestOf,hn]⟩⟩;exact ha (hc.unique h0).1
 rcases h with⟨h0,hc,rfl⟩|⟨rfl,hz,mks,hm,hn,rfl⟩
 ·rcases h' with⟨h0',hc',rfl⟩|⟨rfl,hz,mks,hm,hn,rfl⟩
  ·obtain⟨b,hc⟩:=hc;obtain⟨b',hc'⟩:=hc';exact⟨rfl,(hc.unique hc').1⟩
  ·exact(nn h0 hc hz hm hn).elim
 ·rcases h' with⟨h0',hc',rfl⟩|⟨rfl,hz,mks',hm',hn',rfl⟩
  ·exact(nn h0' hc' hz hm hn).elim
  ·rw[acc_unique hm hm'];exact⟨rfl,rfl⟩
set_option maxHeartbeats 800000 in
set_option maxRecDepth 100000 in
theorem plays_order(bk:Nat)(s t:ByteArray)(l:Value)(_hl:l.oneCell'=true)(w:World)(hs:s.size≤maxLen) :
  Calls Tryz.prog 5 #[.pointer (some ⟨bk,0,none⟩),.agg #[.int .i64 6,.string s,.string t,l]] w fun e w'=>e=.returned (.bool true)∧Below w.heap.size w w':=by
 have B1:Hid (∀o,Below w.heap.size w (w.alloc o)):=fun o=>(Below.refl _ _).alloc (Nat.le_refl _) o
 go_enter Tryz.func5,Tryz.ntmps5
 go_wp2_with fail
 refine(Order_any s _ hs).mono ?_;rintro e w1 ⟨t1,a,rfl,hc,hb⟩;have hcell:=(hb.cell (p:=⟨w.heap.size,1,none⟩) (by simp));have HC:Hid (OrdIs s t1 a):=hc;have HB:Hid (Below w.heap.size w w1):=(B1.out _).trans (hb.mono (by simp));clear hc hb
 go_wp2_with fail
 refine(refOrder_any s _ hs).mono ?_;rintro e w2 ⟨t2,a',q,rfl,hc',rfl⟩;obtain⟨e1,e2⟩:=HC.out.unique hc';subst e1 e2;clear hc'
 go_wp2_with fail
 refine(num_any a _).mono ?_;rintro e w3 ⟨rfl,rfl⟩;go_wp2;go_ret;exact⟨rfl,HB.out.trans (below_drewN' _ _ _)⟩
end Go.Proofs.YtdgkpkdinfklaabGreat
