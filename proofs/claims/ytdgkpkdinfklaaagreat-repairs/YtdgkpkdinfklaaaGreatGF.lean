import Derived.Test.YtdgkpkdinfklaaaGreatGA
import Derived.Test.YtdgkpkdinfklaaaGreatGE
import Derived.Laws.BytesArg
namespace Go.Proofs.YtdgkpkdinfklaaaGreat

/-- The signs of a form between what belongs together. -/
def plainE (e : UInt8) : Bool := e == 66 || e == 109 || e == 93 || e == 125 || e == 123 || e == 62

def BF (f : List UInt8) : Prop := f.all plainE = true ∨ ∃ X, f = 97 :: 118 :: 62 :: X ∧ X.all plainE = true

theorem bf_next {f f' : List UInt8} {c : UInt8} (h : BF f) (hn : nxt f c = (f', true)) :
    (sizeU c = 1 ∧ BF f') ∨ (sizeU c = 2 ∧ ∃ e X, f' = e :: X ∧ (e = 118 ∨ e = 110 ∨ e = 108 ∨ e = 107) ∧ BF X) := by
  rcases h with h | ⟨X, rfl, hX⟩
  · induction f with
    | nil => simp [nxt] at hn
    | cons e r ih =>
      simp only [List.all_cons, Bool.and_eq_true] at h
      unfold nxt at hn
      split at hn
      · rename_i he
        subst he
        split at hn
        · rename_i more hm
          simp only [Prod.mk.injEq, and_true] at hn
          subst hn
          unfold opnL at hm
          split at hm
          · rename_i hc; cases hm
            right
            refine ⟨by rcases hc with rfl | rfl <;> rfl, 118, 66 :: r, rfl, .inl rfl, .inl (by simp [h.2, plainE])⟩
          split at hm
          · rename_i hc; cases hm; subst hc
            exact .inr ⟨rfl, 110, 66 :: r, rfl, .inr (.inl rfl), .inl (by simp [h.2, plainE])⟩
          split at hm
          · rename_i hc; cases hm; subst hc
            exact .inl ⟨rfl, .inl (by simp [h.2, plainE])⟩
          split at hm
          · rename_i hc; cases hm; subst hc
            exact .inr ⟨rfl, 108, 66 :: 93 :: 66 :: r, rfl, .inr (.inr (.inl rfl)), .inl (by simp [h.2, plainE])⟩
          split at hm
          · rename_i hc; cases hm; subst hc
            exact .inr ⟨rfl, 107, 97 :: 118 :: 62 :: 66 :: r, rfl, .inr (.inr (.inr rfl)), .inr ⟨66 :: r, rfl, by simp [h.2, plainE]⟩⟩
          split at hm
          · rename_i hc; cases hm; subst hc
            exact .inl ⟨rfl, .inl (by simp [h.2, plainE])⟩
          split at hm
          · rename_i hc; cases hm; subst hc
            exact .inl ⟨rfl, .inl (by simp [h.2, plainE])⟩
          · cases hm
        · exact ih hn h.2
      · split at hn
        · simp only [Prod.mk.injEq, beq_iff_eq] at hn
          obtain ⟨rfl, rfl⟩ := hn
          exact .inl ⟨rfl, .inl (by simp [h.2, plainE])⟩
        · rename_i h66 h109
          simp only [Prod.mk.injEq] at hn
          obtain ⟨rfl, hs⟩ := hn
          have h1 := h.1
          simp only [plainE, Bool.or_eq_true, beq_iff_eq] at h1
          rcases h1 with ((((h1 | h1) | h1) | h1) | h1) | h1
          · exact absurd h1 h66
          · exact absurd h1 h109
          all_goals
            subst h1
            simp [stB] at hs
            subst hs
            exact .inl ⟨rfl, .inl h.2⟩
  · rw [nxt_e (by decide) (by decide)] at hn
    simp only [Prod.mk.injEq] at hn
    obtain ⟨rfl, hs⟩ := hn
    have hs' : inU [103, 112] c = true := hs
    simp [inU] at hs'
    right
    refine ⟨by rcases hs' with rfl | rfl <;> rfl, 118, 62 :: X, rfl, .inl rfl, .inl (by simp [hX, plainE])⟩

theorem st_second {e d : UInt8} (he : e = 118 ∨ e = 110 ∨ e = 108 ∨ e = 107) (h : stB e d = true) : d ≠ 60 ∧ d ≠ 62 := by
  constructor
  all_goals
    intro hd
    subst hd
    rcases he with rfl | rfl | rfl | rfl <;> exact absurd h (by decide)

/-- In a text of the form the forms between what belongs together are plain; the second byte of two is no bracket of a mended region. -/
theorem acc_bf {p : List UInt8} {mks : List MK} (h : Acc p mks) (k : Nat) : (tw p k).i ≤ p.length ∧ ∃ f, fw p (tw p k).i = some f ∧ BF f := by
  obtain ⟨g, hg, _⟩ := h.form
  induction k with
  | zero => exact ⟨Nat.zero_le _, [66, 109, 109, 109], rfl, .inl rfl⟩
  | succ k ih =>
    obtain ⟨hle, f, hf, hbf⟩ := ih
    rw [tw]
    split
    · rename_i hlt
      have hc := List.getElem?_eq_getElem hlt
      obtain ⟨room, _⟩ := acc_room h hlt hc
      obtain ⟨f1, hf1⟩ := fw_prefix hg (show (tw p k).i + 1 ≤ p.length by omega)
      have hn : nxt f p[(tw p k).i] = (f1, true) := by
        have hf1' := hf1
        rw [fw, hf, hc] at hf1'
        simp only at hf1'
        split at hf1'
        · rename_i h2; cases hf1'; rw [← h2]
        · cases hf1'
      have ei : (tstep p (tw p k)).i = (tw p k).i + sizeU p[(tw p k).i] := by rw [tstep, hc]
      rw [ei]
      refine ⟨room, ?_⟩
      rcases bf_next hbf hn with ⟨hz, hb⟩ | ⟨hz, e, X, rfl, he, hb⟩
      · rw [hz]; exact ⟨f1, hf1, hb⟩
      · rw [hz] at room ⊢
        obtain ⟨f2, hf2⟩ := fw_prefix hg room
        have hlt1 : (tw p k).i + 1 < p.length := by omega
        have hc1 := List.getElem?_eq_getElem hlt1
        refine ⟨X, ?_, hb⟩
        have h3 := hf2
        rw [fw, hf1, hc1] at h3
        simp only at h3
        rw [nxt_e (by rcases he with rfl | rfl | rfl | rfl <;> decide) (by rcases he with rfl | rfl | rfl | rfl <;> decide)] at h3
        split at h3
        · cases h3; exact hf2
        · cases h3
    · exact ⟨hle, f, hf, hbf⟩

theorem acc_second {p : List UInt8} {mks : List MK} (h : Acc p mks) {k : Nat} {c : UInt8} (hlt : (tw p k).i < p.length) (hc : p[(tw p k).i]? = some c) (hz : sizeU c = 2) : ∃ d, p[(tw p k).i + 1]? = some d ∧ d ≠ 60 ∧ d ≠ 62 := by
  obtain ⟨g, hg, _⟩ := h.form
  obtain ⟨_, f, hf, hbf⟩ := acc_bf h k
  obtain ⟨room, _⟩ := acc_room h hlt hc
  rw [hz] at room
  obtain ⟨f1, hf1⟩ := fw_prefix hg (show (tw p k).i + 1 ≤ p.length by omega)
  obtain ⟨f2, hf2⟩ := fw_prefix hg room
  have hn : nxt f c = (f1, true) := by
    have hf1' := hf1
    rw [fw, hf, hc] at hf1'
    simp only at hf1'
    split at hf1'
    · rename_i h2; cases hf1'; rw [← h2]
    · cases hf1'
  rcases bf_next hbf hn with ⟨hz1, _⟩ | ⟨_, e, X, rfl, he, hb⟩
  · omega
  · have hlt1 : (tw p k).i + 1 < p.length := by omega
    have hc1 := List.getElem?_eq_getElem hlt1
    refine ⟨_, hc1, st_second he ?_⟩
    have h3 := hf2
    rw [fw, hf1, hc1] at h3
    simp only at h3
    rw [nxt_e (by rcases he with rfl | rfl | rfl | rfl <;> decide) (by rcases he with rfl | rfl | rfl | rfl <;> decide)] at h3
    split at h3
    · assumption
    · cases h3

/-- Taken out byte by byte, as the program does it. -/
def sb (p : List UInt8) : Nat → Nat × List UInt8
  | 0 => (0, [])
  | n + 1 => match p[(sb p n).1]? with
    | none => sb p n
    | some c => if c = 60 then ((sb p n).1 + 2, (sb p n).2) else if c = 62 then ((sb p n).1 + 1, (sb p n).2) else ((sb p n).1 + 1, (sb p n).2 ++ [c])

/-- Taken out by what belongs together, as the document has it. -/
def tO (p : List UInt8) : Nat → List UInt8
  | 0 => []
  | k + 1 => match p[(tw p k).i]? with
    | none => tO p k
    | some c => tO p k ++ (if c = 60 ∨ c = 62 then [] else (p.drop (tw p k).i).take (sizeU c))

theorem sb_step {p : List UInt8} {n i : Nat} {o : List UInt8} {c : UInt8} (h : sb p n = (i, o)) (hc : p[i]? = some c) : sb p (n + 1) = if c = 60 then (i + 2, o) else if c = 62 then (i + 1, o) else (i + 1, o ++ [c]) := by
  simp [sb, h, hc]

theorem strip_same {p : List UInt8} {mks : List MK} (h : Acc p mks) (k : Nat) : ∃ n, sb p n = ((tw p k).i, tO p k) := by
  induction k with
  | zero => exact ⟨0, rfl⟩
  | succ k ih =>
    obtain ⟨n, hn⟩ := ih
    by_cases hlt : (tw p k).i < p.length
    · have hc := List.getElem?_eq_getElem hlt
      obtain ⟨c, hcc⟩ : ∃ c, p[(tw p k).i] = c := ⟨_, rfl⟩
      have hd1 : p.drop (tw p k).i = c :: p.drop ((tw p k).i + 1) := by rw [← hcc]; exact List.drop_eq_getElem_cons hlt
      rw [hcc] at hc
      have ei : (tw p (k + 1)).i = (tw p k).i + sizeU c := by rw [tw, if_pos hlt, tstep, hc]
      have eo : tO p (k + 1) = tO p k ++ (if c = 60 ∨ c = 62 then [] else (p.drop (tw p k).i).take (sizeU c)) := by rw [tO, hc]
      have s1 := sb_step hn hc
      rw [ei, eo]
      by_cases h60 : c = 60
      · subst h60
        exact ⟨n + 1, by rw [s1]; simp [sizeU, inU]⟩
      · by_cases h62 : c = 62
        · subst h62
          exact ⟨n + 1, by rw [s1]; simp [sizeU, inU]⟩
        · rw [if_neg (by simp [h60, h62])]
          rw [if_neg h60, if_neg h62] at s1
          by_cases hz : sizeU c = 2
          · obtain ⟨d, hd, hd6, hd7⟩ := acc_second h hlt hc hz
            have s2 := sb_step s1 hd
            rw [if_neg hd6, if_neg hd7] at s2
            refine ⟨n + 1 + 1, ?_⟩
            rw [s2, hz, hd1]
            have hlt1 : (tw p k).i + 1 < p.length := (List.getElem?_eq_some_iff.1 hd).1
            have hdd : p[(tw p k).i + 1] = d := by
              rw [List.getElem?_eq_getElem hlt1] at hd; simpa using hd
            rw [List.drop_eq_getElem_cons hlt1, hdd]
            simp
          · have hz1 : sizeU c = 1 := by
              have : sizeU c = 1 ∨ sizeU c = 2 := by unfold sizeU; split <;> simp
              omega
            refine ⟨n + 1, ?_⟩
            rw [s1, hz1, hd1]
            simp
    · refine ⟨n, ?_⟩
      rw [hn, tw, if_neg hlt, tO, List.getElem?_eq_none (by omega)]

end Go.Proofs.YtdgkpkdinfklaaaGreat

namespace Go.Proofs.YtdgkpkdinfklaaaGreat
open Go.RowKit

theorem Tryz.infoByte : (Tryz.prog.info? 5).map (fun i => (i.zero, i.size, i.bytes)) = some (some (.int .u8 0), 1, 1) := by kernel_rfl

theorem addr_at (g j : Nat) : (⟨g, 0, none⟩ : Addr).add j = ⟨g, j, none⟩ := by unfold Addr.add; split <;> simp_all

def byV (l : List UInt8) : List Value := l.map fun b => .int .u8 (b.toNat : Int)

end Go.Proofs.YtdgkpkdinfklaaaGreat

namespace Go.Proofs.YtdgkpkdinfklaaaGreat
open Go.RowKit

theorem tO_len (p : List UInt8) (k : Nat) : (tO p k).length ≤ (tw p k).i := by
  induction k with
  | zero => exact Nat.le_refl _
  | succ k ih =>
    by_cases hlt : (tw p k).i < p.length
    · have hc := List.getElem?_eq_getElem hlt
      have ei : (tw p (k + 1)).i = (tw p k).i + sizeU p[(tw p k).i] := by rw [tw, if_pos hlt, tstep, hc]
      have eo : tO p (k + 1) = tO p k ++ (if p[(tw p k).i] = 60 ∨ p[(tw p k).i] = 62 then [] else (p.drop (tw p k).i).take (sizeU p[(tw p k).i])) := by rw [tO, hc]
      rw [ei, eo, List.length_append]
      split
      · simp; omega
      · have := List.length_take_le (sizeU p[(tw p k).i]) (p.drop (tw p k).i)
        omega
    · have ei : tw p (k + 1) = tw p k := by rw [tw, if_neg hlt]
      rw [ei, tO, List.getElem?_eq_none (by omega)]
      exact ih

theorem mid_data (s : ByteArray) (k z : Nat) : (s.extract k (k + z)).data.toList = (s.data.toList.drop k).take z := by
  rw [Lib.extract_data, Nat.add_sub_cancel_left]

def StripOut (s : ByteArray) (e : Ending) : Prop := ∃ (j : Nat) (g : ByteArray), s.size ≤ (tw s.data.toList j).i ∧ e = .returned (.tuple #[.string g, .int .i64 0]) ∧ g.data.toList = tO s.data.toList j

set_option maxHeartbeats 1600000 in
set_option maxRecDepth 100000 in
theorem refStrip_ok (s : ByteArray) (mks : List MK) (w : World) (h : s.size ≤ 240) (ha : Acc s.data.toList mks) (hc : ChkIs s 0 0) :
    Calls Tryz.prog 17 #[.string s] w fun e w' => StripOut s e ∧ w' = w := by
  go_enter Tryz.func17, Tryz.ntmps17
  go_wp2_with fail
  refine (refCheck_any s w (by unfold maxLen; omega)).mono ?_
  rintro e w1 ⟨a, b, rfl, hc', rfl⟩
  obtain ⟨rfl, rfl⟩ := hc.unique hc'
  have HA : Hid (Acc s.data.toList mks) := ha
  clear hc hc' ha
  go_wp2
  go_loop [6, 7] (fun ov i => ∃ (k j : Nat) (o : ByteArray), i = .int .i64 k ∧ ov = .string o ∧ (tw s.data.toList j).i = k ∧ tO s.data.toList j = o.data.toList ∧ o.size ≤ k ∧ k ≤ s.size) (fun _ i => s.size - (intOf i).toNat)
  case atStart => exact ⟨0, 0, ⟨#[]⟩, rfl, rfl, rfl, rfl, by decide, Nat.zero_le _⟩
  case round =>
    obtain ⟨k, j, o, rfl, rfl, hki, hto, hos, hks⟩ := hrel
    by_cases hlt : k < s.size
    · have hlt' : (tw s.data.toList j).i < s.data.toList.length := by rw [hki, len_eq]; exact hlt
      have hc : s.data.toList[(tw s.data.toList j).i]? = some s[k] := by rw [hki]; exact byteAt s k hlt
      obtain ⟨t1, _⟩ := tw_at hlt' hc
      obtain ⟨room, _⟩ := acc_room HA.out hlt' hc
      have t5 : tO s.data.toList (j + 1) = o.data.toList ++ (if s[k] = 60 ∨ s[k] = 62 then [] else (s.data.toList.drop k).take (sizeU s[k])) := by rw [tO, hc, hto, hki]
      have tl := tO_len s.data.toList (j + 1)
      rw [hki, len_eq] at room
      rw [hki] at t1
      rw [t1] at tl
      obtain ⟨z, hzz⟩ : ∃ z, z = sizeU s[k] := ⟨_, rfl⟩
      have hz1 := sizeU_pos s[k]
      rw [← hzz] at room hz1 t1 t5 tl
      have HZ : Hid (z = sizeU s[k]) := hzz
      have T1 : Hid ((tw s.data.toList (j + 1)).i = k + z) := t1
      have T5 : Hid (tO s.data.toList (j + 1) = o.data.toList ++ (if s[k] = 60 ∨ s[k] = 62 then [] else (s.data.toList.drop k).take z)) := t5
      have TL : Hid ((tO s.data.toList (j + 1)).length ≤ k + z) := tl
      have hz2 : z ≤ 2 := by rw [hzz]; unfold sizeU; split <;> omega
      clear t1 t5 tl hzz hki hto hc hlt'
      by_cases h60 : s[k] = 60
      · have b60 : ((s[k].toNat : Int) != 60) = false := by rw [h60]; rfl
        have HO : Hid (tO s.data.toList (j + 1) = o.data.toList) := by have := T5.out; rw [if_pos (.inl h60), List.append_nil] at this; exact this
        clear h60
        go_wp2_with fail
        refine (size_any s[k] _).mono ?_
        rintro e w' ⟨rfl, rfl⟩
        rw [← HZ.out]
        go_wp2_with fail
        refine (size_any s[k] _).mono ?_
        rintro e w' ⟨rfl, rfl⟩
        rw [← HZ.out]
        go_wp2
        go_round
        case rel => exact ⟨k + z, j + 1, o, by go_num, rfl, T1.out, HO.out, by omega, by omega⟩
        case measure => simp [intOf]; omega
      · have b60 : ((s[k].toNat : Int) != 60) = true := by have := u8g h60; simp only [bne]; exact congrArg not this
        by_cases h62 : s[k] = 62
        · have b62 : ((s[k].toNat : Int) != 62) = false := by rw [h62]; rfl
          have HO : Hid (tO s.data.toList (j + 1) = o.data.toList) := by have := T5.out; rw [if_pos (.inr h62), List.append_nil] at this; exact this
          clear h60 h62
          go_wp2_with fail
          refine (size_any s[k] _).mono ?_
          rintro e w' ⟨rfl, rfl⟩
          rw [← HZ.out]
          go_wp2_with fail
          refine (size_any s[k] _).mono ?_
          rintro e w' ⟨rfl, rfl⟩
          rw [← HZ.out]
          go_wp2
          go_round
          case rel => exact ⟨k + z, j + 1, o, by go_num, rfl, T1.out, HO.out, by omega, by omega⟩
          case measure => simp [intOf]; omega
        · have b62 : ((s[k].toNat : Int) != 62) = true := by have := u8g h62; simp only [bne]; exact congrArg not this
          have HO : Hid (tO s.data.toList (j + 1) = o.data.toList ++ (s.data.toList.drop k).take z) := by have := T5.out; rw [if_neg (by simp [h60, h62])] at this; exact this
          clear h60 h62
          go_wp2_with fail
          refine (size_any s[k] _).mono ?_
          rintro e w' ⟨rfl, rfl⟩
          rw [← HZ.out]
          go_wp2_with fail
          refine (size_any s[k] _).mono ?_
          rintro e w' ⟨rfl, rfl⟩
          rw [← HZ.out]
          go_wp2
          go_round
          case rel =>
            have ho : (o ++ s.extract k (k + z)).data.toList = tO s.data.toList (j + 1) := by rw [cat_data, mid_data, HO.out]
            refine ⟨k + z, j + 1, o ++ s.extract k (k + z), by go_num, rfl, T1.out, ho.symm, ?_, by omega⟩
            have := TL.out
            rw [← ho, len_eq] at this
            exact this
          case measure => simp [intOf]; omega
    · have HK : Hid ((tw s.data.toList j).i = k) := hki
      have HO : Hid (tO s.data.toList j = o.data.toList) := hto
      clear hki hto
      go_wp2
      go_ret2
      exact ⟨⟨j, o, by rw [HK.out]; omega, rfl, HO.out.symm⟩, rfl⟩

set_option maxHeartbeats 400000 in
theorem refStrip_err (s : ByteArray) (a b : Int) (w : World) (hs : s.size ≤ maxLen) (hc : ChkIs s a b) (ha : a ≠ 0) :
    Calls Tryz.prog 17 #[.string s] w fun e w' => e = .returned (.tuple #[.string ⟨#[]⟩, .int .i64 a]) ∧ w' = w := by
  have ha' : (a != 0) = true := by simpa using ha
  go_enter Tryz.func17, Tryz.ntmps17
  go_wp2_with fail
  refine (refCheck_any s w hs).mono ?_
  rintro e w1 ⟨a', b', rfl, hc', rfl⟩
  obtain ⟨rfl, rfl⟩ := hc.unique hc'
  clear hc hc' ha
  go_wp2
  go_ret2
  exact ⟨rfl, rfl⟩

/-- What Strip answers. -/
def StripIs (s : ByteArray) (o : ByteArray) (a : Int) : Prop := ∃ b, ChkIs s a b ∧ ((a ≠ 0 ∧ o = ⟨#[]⟩) ∨ (a = 0 ∧ ∃ n, s.size ≤ (sb s.data.toList n).1 ∧ o = ⟨(sb s.data.toList n).2.toArray⟩))

theorem refStrip_any (s : ByteArray) (w : World) (hs : s.size ≤ maxLen) :
    Calls Tryz.prog 17 #[.string s] w fun e w' => ∃ o a, e = .returned (.tuple #[.string o, .int .i64 a]) ∧ StripIs s o a ∧ w' = w := by
  obtain ⟨a, b, hc⟩ := chk_total s
  by_cases ha : a = 0
  · subst ha
    have hcc := hc
    rcases hc with ⟨_, h1, _⟩ | ⟨hz, ⟨q, _, h1, _⟩ | ⟨mks, hacc, h1, h2⟩⟩
    · cases h1
    · cases h1
    · have hb : b = 0 := by
        rw [h2]
        unfold nestOf at h1 ⊢
        split at h1
        · rfl
        · cases h1
      subst hb
      refine (refStrip_ok s mks w hz hacc hcc).mono ?_
      rintro e w' ⟨⟨j, g, hj, he, hg⟩, hw⟩
      obtain ⟨n, hn⟩ := strip_same hacc j
      refine ⟨g, 0, he, ⟨0, hcc, .inr ⟨rfl, n, by rw [hn]; exact hj, ?_⟩⟩, hw⟩
      rw [hn]
      exact ByteArray.ext (Array.toList_inj.1 (by rw [hg]))
  · refine (refStrip_err s a b w hs hc ha).mono ?_
    rintro e w' ⟨he, hw⟩
    exact ⟨_, a, he, ⟨b, hc, .inl ⟨ha, rfl⟩⟩, hw⟩

end Go.Proofs.YtdgkpkdinfklaaaGreat
