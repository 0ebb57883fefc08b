import Derived.Test.YtnpkambjlfkhgaaGreatStripA
namespace Go.Proofs.YtnpkambjlfkhgaaGreat
open Go.RowKit

theorem tO_len (p : List UInt8) (k : Nat) : (tO p k).length ≤ (tw p k).i := by
  induction k with
  | zero => exact Nat.le_refl _
  | succ k ih =>
    by_cases hlt : (tw p k).i < p.length
    · have hc := List.getElem?_eq_getElem hlt
      have ei : (tw p (k + 1)).i = (tw p k).i + sizeU p[(tw p k).i] := by rw [tw, if_pos hlt, tstep, hc]
      have eo : tO p (k + 1) = tO p k ++ (if p[(tw p k).i] = 60 ∨ p[(tw p k).i] = 62 then [] else (p.drop (tw p k).i).take (sizeU p[(tw p k).i])) := by rw [tO, hc]
      rw [ei, eo, List.length_append]
      split
      · simp; omega
      · have := List.length_take_le (sizeU p[(tw p k).i]) (p.drop (tw p k).i)
        omega
    · have ei : tw p (k + 1) = tw p k := by rw [tw, if_neg hlt]
      rw [ei, tO, List.getElem?_eq_none (by omega)]
      exact ih

theorem mid_data (s : ByteArray) (k z : Nat) : (s.extract k (k + z)).data.toList = (s.data.toList.drop k).take z := by
  rw [Lib.extract_data, Nat.add_sub_cancel_left]

def StripOut (s : ByteArray) (e : Ending) : Prop := ∃ (j : Nat) (g : ByteArray), s.size ≤ (tw s.data.toList j).i ∧ e = .returned (.tuple #[.string g, .int .i64 0]) ∧ g.data.toList = tO s.data.toList j

set_option maxHeartbeats 1600000 in
set_option maxRecDepth 100000 in
theorem refStrip_ok (s : ByteArray) (mks : List MK) (w : World) (h : s.size ≤ 240) (ha : Acc s.data.toList mks) (hc : ChkIs s 0 0) :
    Calls Tryz.prog 14 #[.string s] w fun e w' => StripOut s e ∧ w' = w := by
  go_enter Tryz.func14, Tryz.ntmps14
  go_wp2_with fail
  refine (refCheck_any s w (by unfold maxLen; omega)).mono ?_
  rintro e w1 ⟨a, b, rfl, hc', rfl⟩
  obtain ⟨rfl, rfl⟩ := hc.unique hc'
  have HA : Hid (Acc s.data.toList mks) := ha
  clear hc hc' ha
  go_wp2
  go_loop [6, 7] (fun ov i => ∃ (k j : Nat) (o : ByteArray), i = .int .i64 k ∧ ov = .string o ∧ (tw s.data.toList j).i = k ∧ tO s.data.toList j = o.data.toList ∧ o.size ≤ k ∧ k ≤ s.size) (fun _ i => s.size - (intOf i).toNat)
  case atStart => exact ⟨0, 0, ⟨#[]⟩, rfl, rfl, rfl, rfl, by decide, Nat.zero_le _⟩
  case round =>
    obtain ⟨k, j, o, rfl, rfl, hki, hto, hos, hks⟩ := hrel
    by_cases hlt : k < s.size
    · have hlt' : (tw s.data.toList j).i < s.data.toList.length := by rw [hki, len_eq]; exact hlt
      have hc : s.data.toList[(tw s.data.toList j).i]? = some s[k] := by rw [hki]; exact byteAt s k hlt
      obtain ⟨t1, _⟩ := tw_at hlt' hc
      obtain ⟨room, _⟩ := acc_room HA.out hlt' hc
      have t5 : tO s.data.toList (j + 1) = o.data.toList ++ (if s[k] = 60 ∨ s[k] = 62 then [] else (s.data.toList.drop k).take (sizeU s[k])) := by rw [tO, hc, hto, hki]
      have tl := tO_len s.data.toList (j + 1)
      rw [hki, len_eq] at room
      rw [hki] at t1
      rw [t1] at tl
      obtain ⟨z, hzz⟩ : ∃ z, z = sizeU s[k] := ⟨_, rfl⟩
      have hz1 := sizeU_pos s[k]
      rw [← hzz] at room hz1 t1 t5 tl
      have HZ : Hid (z = sizeU s[k]) := hzz
      have T1 : Hid ((tw s.data.toList (j + 1)).i = k + z) := t1
      have T5 : Hid (tO s.data.toList (j + 1) = o.data.toList ++ (if s[k] = 60 ∨ s[k] = 62 then [] else (s.data.toList.drop k).take z)) := t5
      have TL : Hid ((tO s.data.toList (j + 1)).length ≤ k + z) := tl
      have hz2 : z ≤ 2 := by rw [hzz]; unfold sizeU; split <;> omega
      clear t1 t5 tl hzz hki hto hc hlt'
      by_cases h60 : s[k] = 60
      · have b60 : ((s[k].toNat : Int) != 60) = false := by rw [h60]; rfl
        have HO : Hid (tO s.data.toList (j + 1) = o.data.toList) := by have := T5.out; rw [if_pos (.inl h60), List.append_nil] at this; exact this
        clear h60
        go_wp2_with fail
        refine (size_any s[k] _).mono ?_
        rintro e w' ⟨rfl, rfl⟩
        rw [← HZ.out]
        go_wp2_with fail
        refine (size_any s[k] _).mono ?_
        rintro e w' ⟨rfl, rfl⟩
        rw [← HZ.out]
        go_wp2
        go_round
        case rel => exact ⟨k + z, j + 1, o, by go_num, rfl, T1.out, HO.out, by omega, by omega⟩
        case measure => simp [intOf]; omega
      · have b60 : ((s[k].toNat : Int) != 60) = true := by have := u8g h60; simp only [bne]; exact congrArg not this
        by_cases h62 : s[k] = 62
        · have b62 : ((s[k].toNat : Int) != 62) = false := by rw [h62]; rfl
          have HO : Hid (tO s.data.toList (j + 1) = o.data.toList) := by have := T5.out; rw [if_pos (.inr h62), List.append_nil] at this; exact this
          clear h60 h62
          go_wp2_with fail
          refine (size_any s[k] _).mono ?_
          rintro e w' ⟨rfl, rfl⟩
          rw [← HZ.out]
          go_wp2_with fail
          refine (size_any s[k] _).mono ?_
          rintro e w' ⟨rfl, rfl⟩
          rw [← HZ.out]
          go_wp2
          go_round
          case rel => exact ⟨k + z, j + 1, o, by go_num, rfl, T1.out, HO.out, by omega, by omega⟩
          case measure => simp [intOf]; omega
        · have b62 : ((s[k].toNat : Int) != 62) = true := by have := u8g h62; simp only [bne]; exact congrArg not this
          have HO : Hid (tO s.data.toList (j + 1) = o.data.toList ++ (s.data.toList.drop k).take z) := by have := T5.out; rw [if_neg (by simp [h60, h62])] at this; exact this
          clear h60 h62
          go_wp2_with fail
          refine (size_any s[k] _).mono ?_
          rintro e w' ⟨rfl, rfl⟩
          rw [← HZ.out]
          go_wp2_with fail
          refine (size_any s[k] _).mono ?_
          rintro e w' ⟨rfl, rfl⟩
          rw [← HZ.out]
          go_wp2
          go_round
          case rel =>
            have ho : (o ++ s.extract k (k + z)).data.toList = tO s.data.toList (j + 1) := by rw [cat_data, mid_data, HO.out]
            refine ⟨k + z, j + 1, o ++ s.extract k (k + z), by go_num, rfl, T1.out, ho.symm, ?_, by omega⟩
            have := TL.out
            rw [← ho, len_eq] at this
            exact this
          case measure => simp [intOf]; omega
    · have HK : Hid ((tw s.data.toList j).i = k) := hki
      have HO : Hid (tO s.data.toList j = o.data.toList) := hto
      clear hki hto
      go_wp2
      go_ret2
      exact ⟨⟨j, o, by rw [HK.out]; omega, rfl, HO.out.symm⟩, rfl⟩

set_option maxHeartbeats 400000 in
theorem refStrip_err (s : ByteArray) (a b : Int) (w : World) (hs : s.size ≤ maxLen) (hc : ChkIs s a b) (ha : a ≠ 0) :
    Calls Tryz.prog 14 #[.string s] w fun e w' => e = .returned (.tuple #[.string ⟨#[]⟩, .int .i64 a]) ∧ w' = w := by
  have ha' : (a != 0) = true := by simpa using ha
  go_enter Tryz.func14, Tryz.ntmps14
  go_wp2_with fail
  refine (refCheck_any s w hs).mono ?_
  rintro e w1 ⟨a', b', rfl, hc', rfl⟩
  obtain ⟨rfl, rfl⟩ := hc.unique hc'
  clear hc hc' ha
  go_wp2
  go_ret2
  exact ⟨rfl, rfl⟩

/-- What Strip answers. -/
def StripIs (s : ByteArray) (o : ByteArray) (a : Int) : Prop := ∃ b, ChkIs s a b ∧ ((a ≠ 0 ∧ o = ⟨#[]⟩) ∨ (a = 0 ∧ ∃ n, s.size ≤ (sb s.data.toList n).1 ∧ o = ⟨(sb s.data.toList n).2.toArray⟩))

theorem StripIs.unique {s o o' : ByteArray} {a a' : Int} (h : StripIs s o a) (h' : StripIs s o' a') : o = o' ∧ a = a' := by
  obtain ⟨b, hc, h⟩ := h
  obtain ⟨b', hc', h'⟩ := h'
  obtain ⟨rfl, rfl⟩ := hc.unique hc'
  refine ⟨?_, rfl⟩
  rcases h with ⟨h0, rfl⟩ | ⟨h0, n, hn, rfl⟩
  · rcases h' with ⟨_, rfl⟩ | ⟨h1, _⟩
    · rfl
    · exact absurd h1 h0
  · rcases h' with ⟨h1, _⟩ | ⟨_, n', hn', rfl⟩
    · exact absurd h0 h1
    · rw [sb_final (p := s.data.toList) (k := n) (j := n') (by rw [len_eq]; exact hn) (by rw [len_eq]; exact hn')]

theorem refStrip_any (s : ByteArray) (w : World) (hs : s.size ≤ maxLen) :
    Calls Tryz.prog 14 #[.string s] w fun e w' => ∃ o a, e = .returned (.tuple #[.string o, .int .i64 a]) ∧ StripIs s o a ∧ w' = w := by
  obtain ⟨a, b, hc⟩ := chk_total s
  by_cases ha : a = 0
  · subst ha
    have hcc := hc
    rcases hc with ⟨_, h1, _⟩ | ⟨hz, ⟨q, _, h1, _⟩ | ⟨mks, hacc, h1, h2⟩⟩
    · cases h1
    · cases h1
    · have hb : b = 0 := by
        rw [h2]
        unfold nestOf at h1 ⊢
        split at h1
        · rfl
        · cases h1
      subst hb
      refine (refStrip_ok s mks w hz hacc hcc).mono ?_
      rintro e w' ⟨⟨j, g, hj, he, hg⟩, hw⟩
      obtain ⟨n, hn⟩ := strip_same hacc j
      refine ⟨g, 0, he, ⟨0, hcc, .inr ⟨rfl, n, by rw [hn]; exact hj, ?_⟩⟩, hw⟩
      rw [hn]
      exact ByteArray.ext (Array.toList_inj.1 (by rw [hg]))
  · refine (refStrip_err s a b w hs hc ha).mono ?_
    rintro e w' ⟨he, hw⟩
    exact ⟨_, a, he, ⟨b, hc, .inl ⟨ha, rfl⟩⟩, hw⟩

set_option maxHeartbeats 400000 in
theorem strip_any (s : ByteArray) (w : World) (hs : s.size ≤ maxLen) :
    Calls Tryz.prog 13 #[.string s] w fun e w' => ∃ o a, e = .returned (.tuple #[.string o, .int .i64 a]) ∧ StripIs s o a ∧ Below w.heap.size w w' := by
  go_enter Tryz.func13, Tryz.ntmps13
  go_wp2_with fail
  refine (read_any s w hs).mono ?_
  intro e w1 hout
  obtain ⟨hb, v, a, b, rfl, hc, hcase⟩ := hout.says
  clear hout
  by_cases ha : a = 0
  · subst ha
    have hz : s.size ≤ 240 := by
      rcases hcase with ⟨h, _⟩ | ⟨_, h, _⟩
      · exact absurd rfl h
      · exact h
    clear hcase
    go_wp2_with fail
    refine (stripped_any s w1 hz).mono ?_
    rintro e w2 ⟨⟨n, hn, rfl⟩, hb2⟩
    go_wp2
    go_ret2
    exact ⟨_, 0, rfl, ⟨b, hc, .inr ⟨rfl, n, hn, rfl⟩⟩, hb.trans (hb2.mono hb.size)⟩
  · have ha' : (a != 0) = true := by simpa using ha
    clear hcase
    go_wp2
    go_ret2
    exact ⟨_, a, rfl, ⟨b, hc, .inl ⟨ha, rfl⟩⟩, hb⟩

set_option maxHeartbeats 800000 in
set_option maxRecDepth 100000 in
theorem plays_strip (bk : Nat) (s t : ByteArray) (l : Value) (_hl : l.oneCell' = true) (w : World) (hs : s.size ≤ maxLen) :
    Calls Tryz.prog 8 #[.pointer (some ⟨bk, 0, none⟩), .agg #[.int .i64 2, .string s, .string t, l]] w fun e w' => e = .returned (.bool true) ∧ Below w.heap.size w w' := by
  have B1 : Hid (∀ o, Below w.heap.size w (w.alloc o)) := fun o => (Below.refl _ _).alloc (Nat.le_refl _) o
  go_enter Tryz.func8, Tryz.ntmps8
  go_wp2_with fail
  refine (strip_any s _ hs).mono ?_
  rintro e w1 ⟨o, a, rfl, hc, hb⟩
  have hcell := (hb.cell (p := ⟨w.heap.size, 1, none⟩) (by simp))
  have HC : Hid (StripIs s o a) := hc
  have HB : Hid (Below w.heap.size w w1) := (B1.out _).trans (hb.mono (by simp))
  clear hc hb
  go_wp2_with fail
  refine (refStrip_any s _ hs).mono ?_
  rintro e w2 ⟨o', a', rfl, hc', rfl⟩
  obtain ⟨e1, e2⟩ := HC.out.unique hc'
  subst e1 e2
  clear hc'
  go_wp2_with fail
  refine (num_any a _).mono ?_
  rintro e w3 ⟨rfl, rfl⟩
  go_wp2
  go_ret
  exact ⟨rfl, HB.out⟩

end Go.Proofs.YtnpkambjlfkhgaaGreat
