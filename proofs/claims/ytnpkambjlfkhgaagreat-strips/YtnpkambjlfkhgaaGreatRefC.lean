import Derived.Test.YtnpkambjlfkhgaaGreatRefB
import Derived.Test.YtnpkambjlfkhgaaGreatPure5
namespace Go.Proofs.YtnpkambjlfkhgaaGreat
open Go.RowKit

theorem nxt_len (f : List UInt8) (c : UInt8) : (nxt f c).1.length ≤ f.length + 6 := by
  induction f with
  | nil => simp [nxt]
  | cons e r ih =>
    unfold nxt
    split
    · split
      · rename_i more hm
        have := opnL_len hm
        simp; omega
      · simp; omega
    · split
      · simp
      · simp; omega

theorem fw_len {p : List UInt8} {k : Nat} {f : List UInt8} (h : fw p k = some f) : f.length ≤ 4 + 6 * k := by
  induction k generalizing f with
  | zero => simp [fw] at h; subst h; simp
  | succ k ih =>
    rw [fw] at h
    split at h
    · rename_i g c hg hc
      split at h
      · cases h
        have := nxt_len g c
        have := ih hg
        omega
      · cases h
    · cases h

theorem fw_next {p : List UInt8} {k : Nat} {f g : List UInt8} {c : UInt8} (h : fw p k = some f) (hc : p[k]? = some c) (hg : fw p (k + 1) = some g) : (nxt f c).2 = true ∧ (nxt f c).1 = g := by
  rw [fw, h, hc] at hg
  simp only at hg
  split at hg
  · rename_i h2
    cases hg
    exact ⟨h2, rfl⟩
  · cases hg

theorem byteAt (s : ByteArray) (k : Nat) (h : k < s.size) : s.data.toList[k]? = some s[k] := by
  rw [List.getElem?_eq_getElem (by simpa using h)]; rfl

theorem len_eq (s : ByteArray) : s.data.toList.length = s.size := by simp

set_option maxHeartbeats 800000 in
theorem refCheck_long (s : ByteArray) (w : World) (h : 240 < s.size) (hs : s.size ≤ maxLen) :
    Calls Tryz.prog 11 #[.string s] w fun e w' => e = .returned (.tuple #[.int .i64 1, .int .i64 0]) ∧ w' = w := by
  unfold maxLen at hs
  go_enter Tryz.func11, Tryz.ntmps11
  go_wp2
  go_ret2
  exact ⟨rfl, rfl⟩

set_option maxHeartbeats 1600000 in
theorem refCheck_fail (s : ByteArray) (q : Nat) (w : World) (h : s.size ≤ 240) (hf : Fail s.data.toList q) :
    Calls Tryz.prog 11 #[.string s] w fun e w' => e = .returned (.tuple #[.int .i64 2, .int .i64 q]) ∧ w' = w := by
  have hq := fail_le hf
  rw [len_eq] at hq
  have hfq : ∃ g, fw s.data.toList q = some g := by
    rcases hf with ⟨g, _, _, hg, _⟩ | ⟨_, g, hg, _⟩ <;> exact ⟨g, hg⟩
  have HF : Hid (Fail s.data.toList q) := hf
  have HQ : Hid (∃ g, fw s.data.toList q = some g) := hfq
  clear hf hfq
  go_enter Tryz.func11, Tryz.ntmps11
  go_wp2
  go_loop [4, 5] (fun fm i => ∃ (k : Nat) (f : ByteArray), k ≤ q ∧ i = .int .i64 k ∧ fm = .string f ∧ f.size ≤ 4 + 6 * k ∧ fw s.data.toList k = some f.data.toList) (fun _ i => s.size - (intOf i).toNat)
  case atStart => exact ⟨0, ⟨#[66, 109, 109, 109]⟩, Nat.zero_le _, rfl, rfl, by decide, rfl⟩
  case round =>
    obtain ⟨k, f, hk, rfl, rfl, hfs, hfw⟩ := hrel
    have HW : Hid (fw s.data.toList k = some f.data.toList) := hfw
    clear hfw
    by_cases hlt : k < s.size
    · by_cases hkq : k < q
      · obtain ⟨g0, hg0⟩ := HQ.out
        obtain ⟨g1, hg1⟩ := fw_prefix hg0 (show k + 1 ≤ q by omega)
        obtain ⟨n1, n2⟩ := fw_next HW.out (byteAt s k hlt) hg1
        have HG : Hid (fw s.data.toList (k + 1) = some g1) := hg1
        have N1 : Hid ((nxt f.data.toList s[k]).2 = true) := n1
        have N2 : Hid ((nxt f.data.toList s[k]).1 = g1) := n2
        clear hg0 hg1 n1 n2 g0
        go_wp2_with fail
        refine (next_any f s[k] w (by omega)).mono ?_
        rintro e w' ⟨g, rfl, hg, rfl⟩
        rw [N1.out]
        have HGG : Hid (g.data.toList = (nxt f.data.toList s[k]).1) := hg
        clear hg
        go_wp2
        go_round
        case rel =>
          refine ⟨k + 1, g, by omega, by go_num, rfl, ?_, by rw [HG.out, HGG.out, N2.out]⟩
          have e1 := HGG.out
          rw [N2.out] at e1
          have := fw_len HG.out
          rw [← e1, len_eq] at this
          omega
        case measure => simp [intOf]; omega
      · have hkq' : k = q := by omega
        have N1 : Hid ((nxt f.data.toList s[k]).2 = false) := by
          rcases HF.out with ⟨g, c, hl, hg, hc, hn⟩ | ⟨hl, g, hg, hn⟩
          · rw [← hkq'] at hg hc
            rw [HW.out] at hg; cases hg
            rw [byteAt s k hlt] at hc; cases hc
            exact hn
          · rw [len_eq] at hl; omega
        subst hkq'
        go_wp2_with fail
        refine (next_any f s[k] w (by omega)).mono ?_
        rintro e w' ⟨g, rfl, hg, rfl⟩
        rw [N1.out]
        clear hg
        go_wp2
        go_ret2
        exact ⟨rfl, rfl⟩
    · have hkq : k = s.size := by omega
      have hqs : q = s.size := by omega
      have N1 : Hid (wholeF f.data.toList = false) := by
        rcases HF.out with ⟨g, c, hl, hg, hc, hn⟩ | ⟨hl, g, hg, hn⟩
        · rw [len_eq] at hl; omega
        · have hw := HW.out
          rw [hkq, ← hqs, hg] at hw; cases hw
          exact hn
      subst hqs
      clear hkq
      go_wp2_with fail
      refine (whole_any f w (by omega)).mono ?_
      rintro e w' ⟨rfl, rfl⟩
      rw [N1.out]
      go_wp2
      go_ret2
      exact ⟨rfl, rfl⟩

theorem nest_mk {i : Nat} {th : Int} {d : UInt8} {now : List UInt8} (h : MkOk (mkN 3 i th (d.toNat - 65) now)) : nestB (mkN 3 i th (d.toNat - 65) now) = inU now d := by
  have hd : (d.toNat : Int) - 65 = 0 ∨ (d.toNat : Int) - 65 = 1 ∨ (d.toNat : Int) - 65 = 2 ∨ (d.toNat : Int) - 65 = 3 ∨ (d.toNat : Int) - 65 = 4 := by
    rcases h with ⟨_, h1, h2⟩ | ⟨h0, _⟩
    · simp only [mkN] at h1 h2; omega
    · simp [mkN] at h0
  have key : ∀ n : Nat, n < 5 → (d.toNat : Int) - 65 = n → d = UInt8.ofNat (65 + n) := by
    intro n hn e
    apply UInt8.toNat_inj.1
    have : d.toNat = 65 + n := by omega
    rw [this, UInt8.toNat_ofNat_of_lt' (by show 65 + n < 256; omega)]
  rcases hd with e | e | e | e | e
  · have hk := key 0 (by decide) (by simpa using e); subst hk; simp [nestB, mkN]
  · have hk := key 1 (by decide) (by simpa using e); subst hk; simp [nestB, mkN]
  · have hk := key 2 (by decide) (by simpa using e); subst hk; simp [nestB, mkN]
  · have hk := key 3 (by decide) (by simpa using e); subst hk; simp [nestB, mkN]
  · have hk := key 4 (by decide) (by simpa using e); subst hk; simp [nestB, mkN]

theorem nest_acc {kind i : Nat} {th num : Int} {now : List UInt8} (h : kind ≠ 3) : nestB (mkN kind i th num now) = false := by
  have : ((kind : Int) == 3) = false := by rw [beq_eq_false_iff_ne]; omega
  simp [nestB, mkN, this]

theorem heldU_len (now p : List UInt8) (i : Nat) : (heldU now p i).length ≤ now.length + 1 := by
  unfold heldU
  split
  · omega
  · split
    · simp
    · split
      · simp; omega
      · omega

/-- What Check tells of a text that has the form. -/
def nestOf (mks : List MK) : Int × Int := match mks.find? nestB with | none => (0, 0) | some m => (3, m.place)

/-- One step of the walk by what belongs together, in a program of the form. -/
theorem tw_at {p : List UInt8} {k : Nat} {c : UInt8} (hlt : (tw p k).i < p.length) (hc : p[(tw p k).i]? = some c) : (tw p (k + 1)).i = (tw p k).i + sizeU c ∧ (tw p (k + 1)).now = heldU (tw p k).now p (tw p k).i ∧
    (tw p (k + 1)).th = (if c = 124 then (tw p k).th + 1 else (tw p k).th) ∧
    (tw p (k + 1)).mks = (if c = 91 ∨ c = 60 then (tw p k).mks ++ [mkN 3 (tw p k).i (tw p k).th (((p[(tw p k).i + 1]?).getD 0).toNat - 65) (tw p k).now]
      else if c = 103 ∨ c = 112 then (tw p k).mks ++ [mkN (if c = 112 then 2 else 1) (tw p k).i (tw p k).th (((p[(tw p k).i + 1]?).getD 0).toNat - 120) (tw p k).now]
      else (tw p k).mks) := by
  rw [tw, if_pos hlt, tstep, hc]
  exact ⟨rfl, rfl, rfl, rfl⟩

theorem nestOf_hit {mks a l : List MK} {m : MK} (h : mks = a ++ [m] ++ l) (h0 : a.find? nestB = none) (h1 : nestB m = true) : nestOf mks = (3, m.place) := by
  have : mks.find? nestB = some m := by rw [h, List.find?_append, List.find?_append, h0, List.find?_cons, h1]; rfl
  rw [nestOf, this]

theorem find_snoc {a : List MK} {m : MK} (h0 : a.find? nestB = none) (h1 : nestB m = false) : (a ++ [m]).find? nestB = none := by
  rw [List.find?_append, h0, List.find?_cons, h1]; rfl

set_option maxHeartbeats 1600000 in
theorem refCheck_acc (s : ByteArray) (mks : List MK) (w : World) (h : s.size ≤ 240) (ha : Acc s.data.toList mks) :
    Calls Tryz.prog 11 #[.string s] w fun e w' => e = .returned (.tuple #[.int .i64 (nestOf mks).1, .int .i64 (nestOf mks).2]) ∧ w' = w := by
  obtain ⟨ff, hff, hww⟩ := ha.form
  rw [len_eq] at hff
  have HF : Hid (fw s.data.toList s.size = some ff) := hff
  have HWW : Hid (wholeF ff = true) := hww
  have HA : Hid (Acc s.data.toList mks) := ha
  clear hff hww ha
  go_enter Tryz.func11, Tryz.ntmps11
  go_wp2
  go_loop [4, 5] (fun fm i => ∃ (k : Nat) (f : ByteArray), k ≤ s.size ∧ i = .int .i64 k ∧ fm = .string f ∧ f.size ≤ 4 + 6 * k ∧ fw s.data.toList k = some f.data.toList) (fun _ i => s.size - (intOf i).toNat)
  case atStart => exact ⟨0, ⟨#[66, 109, 109, 109]⟩, Nat.zero_le _, rfl, rfl, by decide, rfl⟩
  case round =>
    obtain ⟨k, f, hk, rfl, rfl, hfs, hfw⟩ := hrel
    have HW : Hid (fw s.data.toList k = some f.data.toList) := hfw
    clear hfw
    by_cases hlt : k < s.size
    · obtain ⟨g1, hg1⟩ := fw_prefix HF.out (show k + 1 ≤ s.size by omega)
      obtain ⟨n1, n2⟩ := fw_next HW.out (byteAt s k hlt) hg1
      have HG : Hid (fw s.data.toList (k + 1) = some g1) := hg1
      have N1 : Hid ((nxt f.data.toList s[k]).2 = true) := n1
      have N2 : Hid ((nxt f.data.toList s[k]).1 = g1) := n2
      clear hg1 n1 n2
      go_wp2_with fail
      refine (next_any f s[k] w (by omega)).mono ?_
      rintro e w' ⟨g, rfl, hg, rfl⟩
      rw [N1.out]
      have HGG : Hid (g.data.toList = (nxt f.data.toList s[k]).1) := hg
      clear hg
      go_wp2
      go_round
      case rel =>
        refine ⟨k + 1, g, by omega, by go_num, rfl, ?_, by rw [HG.out, HGG.out, N2.out]⟩
        have e1 := HGG.out
        rw [N2.out] at e1
        have := fw_len HG.out
        rw [← e1, len_eq] at this
        omega
      case measure => simp [intOf]; omega
    · have hkq : k = s.size := by omega
      have N1 : Hid (wholeF f.data.toList = true) := by
        have hw := HW.out
        rw [hkq, HF.out] at hw; cases hw
        exact HWW.out
      clear hkq HW
      go_wp2_with fail
      refine (whole_any f w (by omega)).mono ?_
      rintro e w' ⟨rfl, rfl⟩
      rw [N1.out]
      clear N1
      go_wp2
      go_loop [9, 10] (fun nw i => ∃ (k j : Nat) (now : ByteArray), i = .int .i64 k ∧ nw = .string now ∧ (tw s.data.toList j).i = k ∧ (tw s.data.toList j).now = now.data.toList ∧ now.size ≤ k ∧ k ≤ s.size ∧ (tw s.data.toList j).mks.find? nestB = none) (fun _ i => s.size - (intOf i).toNat)
      case atStart => exact ⟨0, 0, ⟨#[]⟩, rfl, rfl, rfl, rfl, by decide, Nat.zero_le _, rfl⟩
      case round =>
        obtain ⟨k, j, now, rfl, rfl, hki, hkn, hns, hks, hfn⟩ := hrel
        by_cases hlt : k < s.size
        · have hlt' : (tw s.data.toList j).i < s.data.toList.length := by rw [hki, len_eq]; exact hlt
          have hc : s.data.toList[(tw s.data.toList j).i]? = some s[k] := by rw [hki]; exact byteAt s k hlt
          obtain ⟨t1, t2, t3, t4⟩ := tw_at hlt' hc
          obtain ⟨room, l, hl⟩ := acc_room HA.out hlt' hc
          rw [hki, len_eq] at room
          rw [hki] at t1 t2 t4
          rw [hkn] at t2 t4
          have ROOM : Hid (k + sizeU s[k] ≤ s.size) := room
          have hz := sizeU_pos s[k]
          have T1 : Hid ((tw s.data.toList (j + 1)).i = k + sizeU s[k]) := t1
          have T2 : Hid ((tw s.data.toList (j + 1)).now = heldU now.data.toList s.data.toList k) := t2
          have HFN : Hid ((tw s.data.toList j).mks.find? nestB = none) := hfn
          have HL : Hid (mks = (tw s.data.toList (j + 1)).mks ++ l) := hl
          have HLEN : Hid ((heldU now.data.toList s.data.toList k).length ≤ now.size + 1) := by
            have := heldU_len now.data.toList s.data.toList k
            rw [len_eq] at this; exact this
          have hsz2 : s[k] = 91 ∨ s[k] = 60 → k + 1 < s.size := by
            intro h'
            have : sizeU s[k] = 2 := by rcases h' with h' | h' <;> rw [h'] <;> rfl
            omega
          by_cases htk : s[k] = 91 ∨ s[k] = 60
          · have hk1 : k + 1 < s.size := hsz2 htk
            have hd : s.data.toList[k + 1]? = some s[k + 1] := byteAt s (k + 1) hk1
            rw [if_pos htk, hd] at t4
            simp only [Option.getD_some] at t4
            have hmem : mkN 3 k (tw s.data.toList j).th ((s[k + 1].toNat : Int) - 65) now.data.toList ∈ mks := by rw [hl, t4]; simp
            have hnest := nest_mk (HA.out.marks _ hmem)
            have HT4 : Hid ((tw s.data.toList (j + 1)).mks = (tw s.data.toList j).mks ++ [mkN 3 k (tw s.data.toList j).th ((s[k + 1].toNat : Int) - 65) now.data.toList]) := t4
            have HNEST : Hid (nestB (mkN 3 k (tw s.data.toList j).th ((s[k + 1].toNat : Int) - 65) now.data.toList) = inU now.data.toList s[k + 1]) := hnest
            have HSZ2 : Hid (s[k] = 91 ∨ s[k] = 60 → k + 1 < s.size) := hsz2
            have hz2 : sizeU s[k] = 2 := by rcases htk with h' | h' <;> rw [h'] <;> rfl
            have HZ2 : Hid (sizeU s[k] = 2) := hz2
            clear hmem hnest t1 t2 t3 t4 hl hfn hki hkn hlt' hc hd hsz2 room hz2 hz
            cases hin : inU now.data.toList s[k + 1] with
            | true =>
              have ho1 := HL.out
              rw [HT4.out] at ho1
              have ho2 : nestOf mks = (3, (k : Int)) := nestOf_hit (m := mkN 3 k (tw s.data.toList j).th ((s[k + 1].toNat : Int) - 65) now.data.toList) (l := l) ho1 HFN.out (by rw [HNEST.out, hin])
              have HO : Hid (nestOf mks = (3, (k : Int))) := ho2
              clear ho1 ho2
              have HIN : Hid (inU now.data.toList s[k + 1] = true) := hin
              clear hin
              by_cases h91 : s[k] = 91
              · have b91 : ((s[k].toNat : Int) == 91) = true := by rw [h91]; rfl
                clear h91 htk
                go_wp2_with fail
                refine (in_any now s[k + 1] _ (by unfold maxLen; omega)).mono ?_
                rintro e w' ⟨rfl, rfl⟩
                rw [HIN.out]
                go_wp2
                go_ret2
                rw [HO.out]
                exact ⟨rfl, rfl⟩
              · have b91 : ((s[k].toNat : Int) == 91) = false := u8g h91
                have b60 : ((s[k].toNat : Int) == 60) = true := by rcases htk with h' | h'; exact absurd h' h91; rw [h']; rfl
                clear h91 htk
                go_wp2_with fail
                refine (in_any now s[k + 1] _ (by unfold maxLen; omega)).mono ?_
                rintro e w' ⟨rfl, rfl⟩
                rw [HIN.out]
                go_wp2
                go_ret2
                rw [HO.out]
                exact ⟨rfl, rfl⟩
            | false =>
              have HIN : Hid (inU now.data.toList s[k + 1] = false) := hin
              have HFN2 : Hid ((tw s.data.toList (j + 1)).mks.find? nestB = none) := by
                have := find_snoc HFN.out (show nestB (mkN 3 k (tw s.data.toList j).th ((s[k + 1].toNat : Int) - 65) now.data.toList) = false by rw [HNEST.out, hin])
                rw [← HT4.out] at this; exact this
              clear hin
              by_cases h91 : s[k] = 91
              · have b91 : ((s[k].toNat : Int) == 91) = true := by rw [h91]; rfl
                clear h91 htk
                go_wp2_with fail
                refine (in_any now s[k + 1] _ (by unfold maxLen; omega)).mono ?_
                rintro e w' ⟨rfl, rfl⟩
                rw [HIN.out]
                go_wp2_with fail
                refine (held_any now s k _ (by omega) (by omega) hlt HSZ2.out).mono ?_
                rintro e w' ⟨g, rfl, hg, rfl⟩
                have HG : Hid (g.data.toList = heldU now.data.toList s.data.toList k) := hg
                clear hg
                go_wp2_with fail
                refine (size_any s[k] _).mono ?_
                rintro e w' ⟨rfl, rfl⟩
                rw [HZ2.out]
                go_wp2
                go_round
                case rel =>
                  refine ⟨k + 2, j + 1, g, by go_num, rfl, by rw [T1.out, HZ2.out], by rw [T2.out, HG.out], ?_, by omega, HFN2.out⟩
                  have := HLEN.out
                  rw [← HG.out, len_eq] at this
                  omega
                case measure => simp [intOf]; omega
              · have b91 : ((s[k].toNat : Int) == 91) = false := u8g h91
                have b60 : ((s[k].toNat : Int) == 60) = true := by rcases htk with h' | h'; exact absurd h' h91; rw [h']; rfl
                clear h91 htk
                go_wp2_with fail
                refine (in_any now s[k + 1] _ (by unfold maxLen; omega)).mono ?_
                rintro e w' ⟨rfl, rfl⟩
                rw [HIN.out]
                go_wp2_with fail
                refine (held_any now s k _ (by omega) (by omega) hlt HSZ2.out).mono ?_
                rintro e w' ⟨g, rfl, hg, rfl⟩
                have HG : Hid (g.data.toList = heldU now.data.toList s.data.toList k) := hg
                clear hg
                go_wp2_with fail
                refine (size_any s[k] _).mono ?_
                rintro e w' ⟨rfl, rfl⟩
                rw [HZ2.out]
                go_wp2
                go_round
                case rel =>
                  refine ⟨k + 2, j + 1, g, by go_num, rfl, by rw [T1.out, HZ2.out], by rw [T2.out, HG.out], ?_, by omega, HFN2.out⟩
                  have := HLEN.out
                  rw [← HG.out, len_eq] at this
                  omega
                case measure => simp [intOf]; omega
          · have HFN2 : Hid ((tw s.data.toList (j + 1)).mks.find? nestB = none) := by
              show (tw s.data.toList (j + 1)).mks.find? nestB = none
              rw [t4, if_neg htk]
              split
              · refine find_snoc hfn ?_
                split
                · exact nest_acc (kind := 2) (by decide)
                · exact nest_acc (kind := 1) (by decide)
              · exact hfn
            have HSZ2 : Hid (s[k] = 91 ∨ s[k] = 60 → k + 1 < s.size) := hsz2
            simp only [not_or] at htk
            have b91 : ((s[k].toNat : Int) == 91) = false := u8g htk.1
            have b60 : ((s[k].toNat : Int) == 60) = false := u8g htk.2
            obtain ⟨z, hzz⟩ : ∃ z, z = sizeU s[k] := ⟨_, rfl⟩
            have HZ : Hid (z = sizeU s[k]) := hzz
            rw [← hzz] at hz room
            clear htk t1 t2 t3 t4 hl hfn hki hkn hlt' hc hsz2 ROOM hzz
            go_wp2_with fail
            refine (held_any now s k _ (by omega) (by omega) hlt HSZ2.out).mono ?_
            rintro e w' ⟨g, rfl, hg, rfl⟩
            have HG : Hid (g.data.toList = heldU now.data.toList s.data.toList k) := hg
            clear hg
            go_wp2_with fail
            refine (size_any s[k] _).mono ?_
            rintro e w' ⟨rfl, rfl⟩
            rw [← HZ.out]
            go_wp2
            go_round
            case rel =>
              refine ⟨k + z, j + 1, g, by go_num, rfl, by rw [T1.out, HZ.out], by rw [T2.out, HG.out], ?_, by omega, HFN2.out⟩
              have := HLEN.out
              rw [← HG.out, len_eq] at this
              omega
            case measure => simp [intOf]; omega
        · have he : nestOf mks = (0, 0) := by
            have := (acc_end HA.out (k := j) (by rw [hki, len_eq]; omega)).1
            rw [← this, nestOf, hfn]
          have HE : Hid (nestOf mks = (0, 0)) := he
          clear he hki hkn hfn
          go_wp2
          go_ret2
          rw [HE.out]
          exact ⟨rfl, rfl⟩

end Go.Proofs.YtnpkambjlfkhgaaGreat
