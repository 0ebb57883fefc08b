import Derived.Test.YtdgkpkdinfklaabXKyA
namespace Go.Proofs.Ytdgkpkdinfklaab
open Go.RowKit
def OW (p : List UInt8) (k : Nat) : Prop := ∀ x ∈ tks (tw p k).now (p.drop (tw p k).i), ∀ l ∈ x.2.2, l.toNat < x.2.1.toNat
theorem OW.pass {p : List UInt8} {mks : List MK} (ha : Acc p mks) {k : Nat} {c : UInt8} (hlt : (tw p k).i < p.length) (hc : p[(tw p k).i]? = some c) (h : OW p k) : OW p (k + 1) := by
 unfold OW at h ⊢
 rw [tks_walk ha hlt hc] at h
 exact fun x hx => h x (List.mem_append_right _ hx)
theorem OW.now {p : List UInt8} {mks : List MK} (ha : Acc p mks) {k : Nat} {c : UInt8} (hlt : (tw p k).i < p.length) (hc : p[(tw p k).i]? = some c) (ht : c = 91 ∨ c = 60) (h : OW p k) : ∀ l ∈ (tw p k).now, l.toNat < ((p[(tw p k).i + 1]?).getD 0).toNat := by
 unfold OW at h
 rw [tks_walk ha hlt hc, if_pos ht] at h
 exact h (c, (p[(tw p k).i + 1]?).getD 0, (tw p k).now) (List.mem_append_left _ (List.mem_singleton.2 rfl))
set_option maxHeartbeats 3200000 in
set_option maxRecDepth 100000 in
theorem kordered_any (s : ByteArray) (mks : List MK) (w : World) (h : s.size ≤ 240) (ha : Acc s.data.toList mks) (ho : ∀ x ∈ tks [] s.data.toList, ∀ l ∈ x.2.2, l.toNat < x.2.1.toNat) :
  Calls Try.prog 18 #[.string s] w fun e w' => e = .returned (.bool true) ∧ ∃ q, w' = w.drewN q := by
 have HA : Hid (Acc s.data.toList mks) := ha
 have HO0 : Hid (OW s.data.toList 0) := fun x hx => ho x (by simpa [tw] using hx)
 clear ha ho
 go_enter Try.func18, Try.ntmps18
 go_wp2
 go_loopw [3, 4] (fun nw i wr => ∃ (k j q : Nat) (now : ByteArray), i = .int .i64 k ∧ nw = .string now ∧ (tw s.data.toList j).i = k ∧ (tw s.data.toList j).now = now.data.toList ∧ now.size ≤ k ∧ k ≤ s.size ∧ OW s.data.toList j ∧ wr = w.drewN q) (fun _ i _ => s.size - (intOf i).toNat)
 case atStart => exact ⟨0, 0, 0, ⟨#[]⟩, rfl, rfl, rfl, rfl, by decide, Nat.zero_le _, HO0.out, rfl⟩
 case round =>
  obtain ⟨k, j, q, now, rfl, rfl, hki, hkn, hns, hks, hfw, rfl⟩ := hrel
  have HF : Hid (OW s.data.toList j) := hfw
  clear hfw
  by_cases hlt : k < s.size
  ·have hlt' : (tw s.data.toList j).i < s.data.toList.length := by rw [hki, len_eq]; exact hlt
   have hc : s.data.toList[(tw s.data.toList j).i]? = some s[k] := by rw [hki]; exact byteAt s k hlt
   obtain ⟨t1, t2, t3, t4⟩ := tw_at hlt' hc
   obtain ⟨room, l, hl⟩ := acc_room HA.out hlt' hc
   rw [hki, len_eq] at room
   rw [hki] at t1 t2
   rw [hkn] at t2
   have hz := sizeU_pos s[k]
   have T1 : Hid ((tw s.data.toList (j + 1)).i = k + sizeU s[k]) := t1
   have hbk : s.data.toList[k]? = some s[k] := byteAt s k hlt
   have HFN : Hid (OW s.data.toList (j + 1)) := HF.out.pass HA.out hlt' hc
   obtain ⟨z, hzz⟩ : ∃ z, z = sizeU s[k] := ⟨_, rfl⟩
   have HSIZE : Hid (∀ wx, Calls Try.prog 33 #[.int .u8 (s[k].toNat : Int)] wx fun e w' => e = .returned (.int .i64 z) ∧ w' = wx) := by
    intro wx; rw [hzz]; exact ksize_any s[k] wx
   rw [← hzz] at T1 room hz
   by_cases ht : s[k] = 91 ∨ s[k] = 60
   ·have hz2 : z = 2 := by rw [hzz]; rcases ht with h' | h' <;> rw [h'] <;> rfl
    subst hz2
    have hk1 : k + 1 < s.size := by omega
    have hd : s.data.toList[k + 1]? = some s[k + 1] := byteAt s (k + 1) hk1
    have HNW : Hid (∀ l ∈ now.data.toList, l.toNat < s[k + 1].toNat) := by
     have := HF.out.now HA.out hlt' hc ht
     rw [hki, hkn, hd, Option.getD_some] at this
     exact this
    have T2 : Hid ((tw s.data.toList (j + 1)).now = (now ++ s.extract (k + 1) (k + 2)).data.toList) := by
     show _ = _
     rw [t2, cat_one now s k hk1, heldU, hbk]
     simp only
     rw [if_pos ht, hd]; rfl
    have hns2 : (now ++ s.extract (k + 1) (k + 2)).size ≤ k + 2 := by
     have := cat_one now s k hk1
     have e := congrArg List.length this
     rw [len_eq, List.length_append, len_eq] at e
     simp only [List.length_cons, List.length_nil] at e
     omega
    clear t1 t2 t3 t4 hl hki hkn hlt' hc hd hzz hbk HF
    have hk1i : (k : Int) + 1 < (s.size : Int) := by omega
    have hk1n : (0 : Int) ≤ (k : Int) + 1 := by omega
    by_cases h0 : now.size = 0
    ·have hf0 : now = ⟨#[]⟩ := by
      apply ByteArray.ext
      exact Array.eq_empty_of_size_eq_zero h0
     subst hf0
     by_cases h91 : s[k] = 91
     ·have b91 : ((s[k].toNat : Int) == 91) = true := by rw [h91]; rfl
      clear ht h91
      go_wp2
      go_quiet (fail)
      go_wp2_with (go_at_call 33; refine (HSIZE.out _).mono ?_; rintro e w' ⟨rfl, rfl⟩)
      exact ⟨⟨k + 2, j + 1, q + nq, _, by go_num, rfl, T1.out, T2.out, hns2, by omega, HFN.out, rfl⟩, by simp [intOf]; omega⟩
     ·have b91 : ((s[k].toNat : Int) == 91) = false := u8g h91
      have b60 : ((s[k].toNat : Int) == 60) = true := by
       rcases ht with h' | h'
       ·exact absurd h' h91
       ·rw [h']; rfl
      clear ht h91
      go_wp2
      go_quiet (fail)
      go_wp2_with (go_at_call 33; refine (HSIZE.out _).mono ?_; rintro e w' ⟨rfl, rfl⟩)
      exact ⟨⟨k + 2, j + 1, q + nq, _, by go_num, rfl, T1.out, T2.out, hns2, by omega, HFN.out, rfl⟩, by simp [intOf]; omega⟩
    ·have h0' : 0 < now.size := by omega
     have hne := ne_empty now h0'
     obtain ⟨m, hnm⟩ : ∃ m, now.size = m + 1 := ⟨now.size - 1, by omega⟩
     have hml : m < now.size := by omega
     have hlst : now[m].toNat < s[k + 1].toNat := by
      refine HNW.out _ ?_
      have : m < now.data.toList.length := by rw [len_eq]; omega
      exact List.getElem_mem this
     have hgt : decide ((s[k + 1].toNat : Int) < (now[m].toNat : Int)) = false := decide_eq_false (by omega)
     have hmw : IntKind.i64.wrap (m : Int) = (m : Int) := by rw [IntKind.wrap_i64]; omega
     have hkw : IntKind.i64.wrap ((k : Int) + 1) = (k : Int) + 1 := by rw [IntKind.wrap_i64]; omega
     have hsub : (now.size : Int) - 1 = (m : Int) := by omega
     have hmi : (m : Int) < (now.size : Int) := by omega
     clear h0 h0' hnm
     by_cases h91 : s[k] = 91
     ·have b91 : ((s[k].toNat : Int) == 91) = true := by rw [h91]; rfl
      clear ht h91
      go_wp2
      go_quiet (fail)
      go_wp2_with (go_at_call 33; refine (HSIZE.out _).mono ?_; rintro e w' ⟨rfl, rfl⟩)
      exact ⟨⟨k + 2, j + 1, q + nq, _, by go_num, rfl, T1.out, T2.out, hns2, by omega, HFN.out, rfl⟩, by simp [intOf]; omega⟩
     ·have b91 : ((s[k].toNat : Int) == 91) = false := u8g h91
      have b60 : ((s[k].toNat : Int) == 60) = true := by
       rcases ht with h' | h'
       ·exact absurd h' h91
       ·rw [h']; rfl
      clear ht h91
      go_wp2
      go_quiet (fail)
      go_wp2_with (go_at_call 33; refine (HSIZE.out _).mono ?_; rintro e w' ⟨rfl, rfl⟩)
      exact ⟨⟨k + 2, j + 1, q + nq, _, by go_num, rfl, T1.out, T2.out, hns2, by omega, HFN.out, rfl⟩, by simp [intOf]; omega⟩
   ·have m1 : ((s[k].toNat : Int) == 91) = false := u8g (fun e => ht (.inl e))
    have m2 : ((s[k].toNat : Int) == 60) = false := u8g (fun e => ht (.inr e))
    by_cases hg : s[k] = 93 ∨ s[k] = 62
    ·by_cases h0 : now.size = 0
     ·have hf0 : now = ⟨#[]⟩ := by
       apply ByteArray.ext
       exact Array.eq_empty_of_size_eq_zero h0
      subst hf0
      have T2 : Hid ((tw s.data.toList (j + 1)).now = (⟨#[]⟩ : ByteArray).data.toList) := by
       show _ = _
       rw [t2, heldU, hbk]
       simp only
       rw [if_neg ht, if_pos hg]; rfl
      clear t1 t2 t3 t4 hl hki hkn hlt' hc hzz hbk ht
      by_cases h93 : s[k] = 93
      ·have m3 : ((s[k].toNat : Int) == 93) = true := by rw [h93]; rfl
       clear hg h93
       go_wp2_with (go_at_call 33; refine (HSIZE.out _).mono ?_; rintro e w' ⟨rfl, rfl⟩)
       exact ⟨⟨k + z, j + 1, q, _, by go_num, rfl, T1.out, T2.out, by omega, by omega, HFN.out, rfl⟩, by simp [intOf]; omega⟩
      ·have m3 : ((s[k].toNat : Int) == 93) = false := u8g h93
       have m4 : ((s[k].toNat : Int) == 62) = true := by
        rcases hg with h' | h'
        ·exact absurd h' h93
        ·rw [h']; rfl
       clear hg h93
       go_wp2_with (go_at_call 33; refine (HSIZE.out _).mono ?_; rintro e w' ⟨rfl, rfl⟩)
       exact ⟨⟨k + z, j + 1, q, _, by go_num, rfl, T1.out, T2.out, by omega, by omega, HFN.out, rfl⟩, by simp [intOf]; omega⟩
     ·have h0' : 0 < now.size := by omega
      have hne := ne_empty now h0'
      have T2 : Hid ((tw s.data.toList (j + 1)).now = (now.extract 0 (now.size - 1)).data.toList) := by
       show _ = _
       rw [t2, heldU, hbk, cut_last now h0']
       simp only
       rw [if_neg ht, if_pos hg]
      have hxs : (now.extract 0 (now.size - 1)).size ≤ k := by simp; omega
      have HXS : Hid ((now.extract 0 (now.size - 1)).size ≤ k) := hxs
      clear t1 t2 t3 t4 hl hki hkn hlt' hc hzz hbk ht hxs
      by_cases h93 : s[k] = 93
      ·have m3 : ((s[k].toNat : Int) == 93) = true := by rw [h93]; rfl
       clear hg h93
       go_wp2_with (go_at_call 33; refine (HSIZE.out _).mono ?_; rintro e w' ⟨rfl, rfl⟩)
       exact ⟨⟨k + z, j + 1, q, _, by go_num, rfl, T1.out, T2.out, by have := HXS.out; omega, by omega, HFN.out, rfl⟩, by simp [intOf]; omega⟩
      ·have m3 : ((s[k].toNat : Int) == 93) = false := u8g h93
       have m4 : ((s[k].toNat : Int) == 62) = true := by
        rcases hg with h' | h'
        ·exact absurd h' h93
        ·rw [h']; rfl
       clear hg h93
       go_wp2_with (go_at_call 33; refine (HSIZE.out _).mono ?_; rintro e w' ⟨rfl, rfl⟩)
       exact ⟨⟨k + z, j + 1, q, _, by go_num, rfl, T1.out, T2.out, by have := HXS.out; omega, by omega, HFN.out, rfl⟩, by simp [intOf]; omega⟩
    ·have m3 : ((s[k].toNat : Int) == 93) = false := u8g (fun e => hg (.inl e))
     have m4 : ((s[k].toNat : Int) == 62) = false := u8g (fun e => hg (.inr e))
     have T2 : Hid ((tw s.data.toList (j + 1)).now = now.data.toList) := by
      show _ = _
      rw [t2, heldU, hbk]
      simp only
      rw [if_neg ht, if_neg hg]
     clear t1 t2 t3 t4 hl hki hkn hlt' hc hzz hbk ht hg
     go_wp2_with (go_at_call 33; refine (HSIZE.out _).mono ?_; rintro e w' ⟨rfl, rfl⟩)
     exact ⟨⟨k + z, j + 1, q, _, by go_num, rfl, T1.out, T2.out, by omega, by omega, HFN.out, rfl⟩, by simp [intOf]; omega⟩
  ·go_wp2
   go_ret
   exact ⟨rfl, q, rfl⟩
end Go.Proofs.Ytdgkpkdinfklaab
