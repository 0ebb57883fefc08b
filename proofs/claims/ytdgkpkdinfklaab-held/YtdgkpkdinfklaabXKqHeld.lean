import Derived.Test.YtdgkpkdinfklaabXKhA
import Derived.Test.YtdgkpkdinfklaabGG
import Derived.Test.YtdgkpkdinfklaabXKqFewest
namespace Go.Proofs.Ytdgkpkdinfklaab
open Go.RowKit
theorem kaccsV_get (l : List MK) (i : Nat) (m : MK) (h : l[i]? = some m) (j : Nat) (hj : j < 5) : (accsV l)[i * 5 + j]? = (accV m)[j]? := by
 induction l generalizing i with
 | nil => simp at h
 | cons y r ih =>
  have e : accsV (y :: r) = accV y ++ accsV r := by simp [accsV]
  have hl : (accV y).length = 5 := rfl
  cases i with
  | zero =>
   simp at h; subst h
   rw [e, List.getElem?_append_left (by omega)]; simp
  | succ i =>
   have := ih i (by simpa using h)
   rw [e, List.getElem?_append_right (by omega), ← this]
   congr 1
   omega
theorem kaccAt {w : World} {B g n cm : Nat} {l : List MK} (h : w.ownsRow B 50 5 (.slice (some ⟨g, 0, none⟩) n cm) n (accsV l)) (hn : n = l.length) (i : Nat) (m : MK) (hx : l[i]? = some m) (j : Nat) (hj : j < 5) (v : Value) (hv : (accV m)[j]? = some v) :
  w.cell? ⟨g, i * 5 + j, none⟩ = some v := by
 have hi : i < l.length := (List.getElem?_eq_some_iff.1 hx).1
 exact (h.cellAt (i * 5 + j) (by omega)).trans ((kaccsV_get l i m hx j hj).trans hv)
theorem list_say {q : ByteArray} {mks : List MK} (hc : ChkIs q 0 0) (ha : Acc q.data.toList mks) {w w' : World} {v : Value} {a : Int} (hp : ListIs w w' q v a) : a = 0 ∧ ∃ x c, v = .slice x (accL mks).length c ∧ w'.ownsRow w.heap.size 50 5 (.slice x (accL mks).length c) (accL mks).length (accsV (accL mks)) := by
 obtain ⟨b, hb, hp⟩ := hp
 have ha' := (hb.unique hc).1
 subst ha'
 refine ⟨rfl, ?_⟩
 rcases hp with ⟨h0, _⟩ | ⟨_, _, mks', x, c, hacc, _, hv, hrow⟩
 ·exact absurd rfl h0
 ·have e := acc_unique hacc ha
  subst e
  exact ⟨x, c, hv, hrow⟩
theorem wb_snoc (s : ByteArray) (k : Nat) (h : k < s.size) : wb (s.data.toList.take (k + 1)) = wb (s.data.toList.take k) ++ (if s[k] = 124 then [93, 124, 91, 68] else [s[k]]) := by
 rw [take_snoc s k h, wb_app]
 simp [wb]
set_option maxHeartbeats 6400000 in
set_option maxRecDepth 100000 in
theorem kheld_any (la : Option Addr) (ln lc : Nat) (pa : Option Addr) (pn pc : Nat) (w : World) (hi : IsInts w w.heap.size la ln) (hl : ln ≤ maxLen) (hj : IsInts w w.heap.size pa pn) (hm : pn ≤ maxLen) :
  Calls Try.prog 7 #[.slice la ln lc, .slice pa pn pc] w fun e w' => e = .returned (.bool true) ∧ Below w.heap.size w w' := by
 go_enter Try.func7, Try.ntmps7
 go_wp2_with fail
 refine (program_any la ln lc ⟨#[65, 66, 67]⟩ (.inr rfl) w hi hl).mono ?_
 rintro e w1 ⟨⟨p, t, opn, rfl, hg, htx⟩, b1⟩
 obtain ⟨mks, hgood⟩ := good_of hg htx
 have hps : p.size ≤ 184 := by have := hg.acc.1; rw [len_eq] at this; exact this
 obtain ⟨g, hgw⟩ : ∃ g : ByteArray, g.data.toList = WR p.data.toList := ⟨⟨(WR p.data.toList).toArray⟩, rfl⟩
 obtain ⟨mq, hok⟩ := held_ok hgood hps (htx.2.2 rfl) htx.1 hgw
 have HOK : Hid (HeldOk g mq) := hok
 have HGW : Hid (g.data.toList = WR p.data.toList) := hgw
 have HJ1 : Hid (IsInts w1 w1.heap.size pa pn) := ints_later hj b1
 have B1 : Hid (Below w.heap.size w w1) := b1
 have hgs := hok.good.size
 clear hg htx hgood b1 hi hj hok hgw
 go_wp2
 go_loopw [6, 7] (fun qv iv wr => ∃ (k : Nat) (o : ByteArray), k ≤ p.size ∧ iv = .int .i64 k ∧ qv = .string o ∧ o.data.toList = 91 :: 68 :: wb (p.data.toList.take k) ∧ o.size ≤ 2 + 4 * k ∧ wr = w1) (fun _ iv _ => p.size - (intOf iv).toNat)
 case atStart => exact ⟨0, ⟨#[91, 68]⟩, Nat.zero_le _, rfl, rfl, rfl, by decide, rfl⟩
 case round =>
  obtain ⟨k, o, hk, rfl, rfl, hoo, hos, rfl⟩ := hrel
  have HO : Hid (o.data.toList = 91 :: 68 :: wb (p.data.toList.take k)) := hoo
  clear hoo
  by_cases hlt : k < p.size
  ·have hlti : (k : Int) < (p.size : Int) := by omega
   by_cases hb : p[k] = 124
   ·have b124 : ((p[k].toNat : Int) == 124) = true := by rw [hb]; rfl
    have HN : Hid ((o ++ ⟨#[93, 124, 91, 68]⟩).data.toList = 91 :: 68 :: wb (p.data.toList.take (k + 1))) := by
     show _ = _
     rw [cat_data, HO.out, wb_snoc p k hlt, if_pos hb]; rfl
    have hns : (o ++ ⟨#[93, 124, 91, 68]⟩ : ByteArray).size ≤ 2 + 4 * (k + 1) := by
     rw [← len_eq, cat_data, List.length_append, len_eq]; simp; omega
    clear hb
    go_wp2
    exact ⟨⟨k + 1, _, by omega, by go_num, rfl, HN.out, hns, trivial⟩, by simp [intOf]; omega⟩
   ·have b124 : ((p[k].toNat : Int) == 124) = false := u8g hb
    have HN : Hid ((o ++ p.extract k (k + 1)).data.toList = 91 :: 68 :: wb (p.data.toList.take (k + 1))) := by
     show _ = _
     rw [cat_data, HO.out, wb_snoc p k hlt, if_neg hb, piece_data, List.drop_eq_getElem_cons (by rw [len_eq]; exact hlt)]; rfl
    have hns : (o ++ p.extract k (k + 1)).size ≤ 2 + 4 * (k + 1) := by
     rw [← len_eq, cat_data, List.length_append, len_eq, piece_data]
     have := List.length_take_le 1 (p.data.toList.drop k)
     omega
    clear hb
    go_wp2
    exact ⟨⟨k + 1, _, by omega, by go_num, rfl, HN.out, hns, trivial⟩, by simp [intOf]; omega⟩
  ·have HG : Hid (o ++ ⟨#[93]⟩ = g) := by
    show _ = _
    refine bytes_ext ?_
    rw [cat_data, HO.out, HGW.out, List.take_of_length_le (by rw [len_eq]; omega)]; rfl
   clear HO HGW
   go_wp2_with fail
   rw [HG.out]
   refine (Repair_any g wr (by unfold maxLen; omega)).mono ?_
   rintro e w2 ⟨a, t, x, rfl, ⟨hre, _⟩, b2⟩
   obtain ⟨rfl, rfl, rfl⟩ : x = 0 ∧ a = 1 ∧ t = g := by
    obtain ⟨e0, ch, _, hcase⟩ := HOK.out.good.rep hre
    rcases hcase with ⟨_, h1, h2⟩ | ⟨h1, _⟩
    ·exact ⟨e0, h1, h2⟩
    ·exact absurd HOK.out.none h1
   have B2 : Hid (Below w.heap.size w w2) := B1.out.trans (b2.mono B1.out.size)
   have HJ2 : Hid (IsInts w2 w2.heap.size pa pn) := ints_later HJ1.out b2
   clear hre b2 HJ1
   go_wp2_with fail
   refine (Pairs_any t _ (by unfold maxLen; omega)).mono ?_
   rintro e w3 ⟨v, a, rfl, hpi, b3⟩
   obtain ⟨rfl, x', c', rfl⟩ := pairs_say HOK.out.good.chk HOK.out.good.acc hpi
   rw [HOK.out.none]
   have B3 : Hid (Below w.heap.size w w3) := B2.out.trans (b3.mono B2.out.size)
   have HJ3 : Hid (IsInts w3 w3.heap.size pa pn) := ints_later HJ2.out b3
   clear hpi b3 HJ2
   go_wp2_with fail
   refine (Accesses_any t _ (by unfold maxLen; omega)).mono ?_
   rintro e w4 ⟨v, a, rfl, hli, b4⟩
   obtain ⟨rfl, xl, cl, rfl, hrow⟩ := list_say HOK.out.good.chk HOK.out.good.acc hli
   have B4 : Hid (Below w.heap.size w w4) := B3.out.trans (b4.mono B3.out.size)
   have HJ4 : Hid (IsInts w4 w4.heap.size pa pn) := ints_later HJ3.out b4
   obtain ⟨n, hn⟩ : ∃ n, n = (accL mq).length := ⟨_, rfl⟩
   have HN : Hid (n = (accL mq).length) := hn
   have HROW : Hid (w4.ownsRow w3.heap.size 50 5 (.slice xl n cl) n (accsV (accL mq))) := by rw [hn]; exact hrow
   have hn10 : n ≤ 10 := by rw [hn]; exact HOK.out.good.ten
   rw [← hn]
   clear hli b4 HJ3 hrow hn
   go_wp2_with fail
   refine (kpicks_any pa pn pc w4 HJ4.out hm).mono ?_
   rintro e w5 ⟨⟨s, rfl, hs⟩, b5⟩
   have B5 : Hid (Below w.heap.size w w5) := B4.out.trans (b5.mono B4.out.size)
   have HROW5 : Hid (w5.ownsRow w3.heap.size 50 5 (.slice xl n cl) n (accsV (accL mq))) := ownsRow_later HROW.out b5
   clear b5 HJ4 HROW
   go_wp2_with fail
   refine (ran_any t s 0 w5 HOK.out.good.chk (by omega) hs).mono ?_
   rintro e w6 ⟨hro, b6⟩
   obtain ⟨F, ts, d1, p1, a3, c3, a4, n4, c4, x1, s1, rfl, hprog, hf1, _, _⟩ := ran_more hro
   have ex : x1 = 0 := by rw [hf1.2.2.1]; exact HOK.out.race F ts hprog _ _
   have es : s1 = ⟨#[]⟩ := by rw [hf1.2.2.2.1, HOK.out.stuck F ts hprog]
   subst ex es
   have B6 : Hid (Below w.heap.size w w6) := B5.out.trans (b6.mono B5.out.size)
   have hw6 := B6.out.size
   have HROW6 : Hid (w6.ownsRow w3.heap.size 50 5 (.slice xl n cl) n (accsV (accL mq))) := ownsRow_later HROW5.out b6
   have KG : Hid (∀ W, Calls Try.prog 22 #[.string t, .int .u8 103] W fun e w' => e = .returned (.int .i64 (cntC 103 t.data.toList)) ∧ w' = W) := fun W => kcount_any t 103 W (by omega)
   have KP : Hid (∀ W, Calls Try.prog 22 #[.string t, .int .u8 112] W fun e w' => e = .returned (.int .i64 (cntC 112 t.data.toList)) ∧ w' = W) := fun W => kcount_any t 112 W (by omega)
   have hcn := HOK.out.cnt
   rw [← HN.out] at hcn
   obtain ⟨c1, hc1⟩ : ∃ c, c = cntC 103 t.data.toList := ⟨_, rfl⟩
   obtain ⟨c2, hc2⟩ : ∃ c, c = cntC 112 t.data.toList := ⟨_, rfl⟩
   rw [← hc1, ← hc2] at hcn
   rw [← hc1] at KG
   rw [← hc2] at KP
   have hcs : (c1 : Int) + (c2 : Int) = (n : Int) := by omega
   have HCN : Hid (n = c1 + c2) := hcn
   clear hcn
   have HAL : Hid (∀ o, Below w.heap.size w (w6.alloc o)) := fun o => B6.out.alloc hw6 o
   have L7 := Blk.new (w := w6) (l := [.string d1, .string p1, .slice a3 3 c3, .slice a4 n4 c4, .int .i64 0, .string ⟨#[]⟩]) (ty := 27)
   have HROW7 : Hid (∀ o, (w6.alloc o).ownsRow w3.heap.size 50 5 (.slice xl n cl) n (accsV (accL mq))) := fun o => HROW6.out.alloc o
   clear hro hprog hf1 b6 HROW5 HROW6 hc1 hc2
   go_wp2_with fail
   refine (KG.out _).mono ?_
   rintro e w7 ⟨rfl, rfl⟩
   go_wp2_with fail
   refine (KP.out _).mono ?_
   rintro e w7 ⟨rfl, rfl⟩
   dsimp only
   have B7 := HAL.out (.cells #[.string d1, .string p1, .slice a3 3 c3, .slice a4 n4 c4, .int .i64 0, .string ⟨#[]⟩] 27)
   have R7 := HROW7.out (.cells #[.string d1, .string p1, .slice a3 3 c3, .slice a4 n4 c4, .int .i64 0, .string ⟨#[]⟩] 27)
   have HB7 : Hid (Below w.heap.size w (w6.alloc (.cells #[.string d1, .string p1, .slice a3 3 c3, .slice a4 n4 c4, .int .i64 0, .string ⟨#[]⟩] 27))) := B7
   have HR7 : Hid ((w6.alloc (.cells #[.string d1, .string p1, .slice a3 3 c3, .slice a4 n4 c4, .int .i64 0, .string ⟨#[]⟩] 27)).ownsRow w3.heap.size 50 5 (.slice xl n cl) n (accsV (accL mq))) := R7
   have HL7 : Hid (Blk (w6.alloc (.cells #[.string d1, .string p1, .slice a3 3 c3, .slice a4 n4 c4, .int .i64 0, .string ⟨#[]⟩] 27)) w6.heap.size [.string d1, .string p1, .slice a3 3 c3, .slice a4 n4 c4, .int .i64 0, .string ⟨#[]⟩] 27) := L7
   clear B7 R7 L7 HAL HROW7 KG KP
   generalize w6.alloc (.cells #[.string d1, .string p1, .slice a3 3 c3, .slice a4 n4 c4, .int .i64 0, .string ⟨#[]⟩] 27) = w7 at HB7 HR7 HL7 ⊢
   go_wp2
   go_loopw [17] (fun iv wr => ∃ k : Nat, k ≤ n ∧ iv = .int .i64 k ∧ wr = w7) (fun iv _ => n - (intOf iv).toNat)
   case atStart => exact ⟨0, Nat.zero_le _, rfl, rfl⟩
   case round =>
    obtain ⟨k2, hk2, rfl, hwr⟩ := hrel
    subst hwr
    by_cases hlt2 : k2 < n
    ·obtain ⟨m, hm2⟩ : ∃ m, (accL mq)[k2]? = some m := ⟨(accL mq)[k2]'(by rw [← HN.out]; exact hlt2), List.getElem?_eq_getElem _⟩
     have HIN : Hid (inU (nm (hOf m) 5) 68 = true) := HOK.out.all m (List.mem_of_getElem? hm2)
     obtain ⟨ga, cap', hva, _, _⟩ := HR7.out.form (by omega)
     cases hva
     have p4 := kaccAt HR7.out HN.out k2 m hm2 4 (by decide) _ rfl
     obtain ⟨str, hstr⟩ : ∃ str : ByteArray, str = ⟨(nm (hOf m) 5).toArray⟩ := ⟨_, rfl⟩
     have KS : Hid (∀ wx, Calls Try.prog 26 #[.string str, .int .u8 68] wx fun e w' => e = .returned (.bool true) ∧ w' = wx) := fun wx => by
      have hl5 := nm_len (hOf m) 5
      have := kstands_any str 68 wx (by rw [hstr, ← len_eq]; unfold maxLen; show (nm (hOf m) 5).length ≤ _; omega)
      rw [hstr] at this ⊢
      rw [show inU (⟨(nm (hOf m) 5).toArray⟩ : ByteArray).data.toList 68 = true from HIN.out] at this
      exact this
     rw [← hstr] at p4
     clear hstr hm2
     have hlti2 : (k2 : Int) < (n : Int) := by omega
     go_wp2_with (go_at_call 26; refine (KS.out _).mono ?_; rintro e w' ⟨rfl, rfl⟩)
     exact ⟨⟨k2 + 1, by omega, by go_num, trivial⟩, by simp [intOf]; omega⟩
    ·have m4 := HL7.out.cell 4 _ rfl
     have m5 := HL7.out.cell 5 _ rfl
     go_wp2
     go_ret
     exact ⟨rfl, HB7.out⟩
end Go.Proofs.Ytdgkpkdinfklaab
