import Derived.Test.YtnpkambjlfkhgaaMkA
namespace Go.Proofs.Ytnpkambjlfkhgaa
open Go.RowKit

set_option maxHeartbeats 400000 in
theorem kstands_any (s : ByteArray) (c : UInt8) (w : World) (hs : s.size ≤ maxLen) :
    Calls Try.prog 10 #[.string s, .int .u8 (c.toNat : Int)] w fun e w' => e = .returned (.bool (inU s.data.toList c)) ∧ w' = w := by
  unfold maxLen at hs
  go_enter Try.func10, Try.ntmps10
  go_wp2
  go_loop [5] (fun i => ∃ k : Nat, k ≤ s.size ∧ i = .int .i64 k ∧ inU (s.data.toList.take k) c = false) (fun i => s.size - (intOf i).toNat)
  case atStart => exact ⟨0, Nat.zero_le _, rfl, rfl⟩
  case round =>
    obtain ⟨k, hk, rfl, hr⟩ := hrel
    have HR : Hid (inU (s.data.toList.take k) c = false) := hr
    clear hr
    by_cases hlt : k < s.size
    · by_cases he : ((s[k].toNat : Int) == (c.toNat : Int)) = true
      · have HF : Hid (inU s.data.toList c = true) := inU_hit s k hlt c he
        go_wp2
        go_ret
        rw [HF.out]; exact ⟨rfl, rfl⟩
      · have he' : ((s[k].toNat : Int) == (c.toNat : Int)) = false := by simpa using he
        clear he
        go_wp2
        go_round
        case rel => exact ⟨k + 1, by omega, by go_num, by rw [take_snoc s k hlt, inU_snoc, HR.out]; simpa using u8f he'⟩
        case measure => simp [intOf]; omega
    · go_wp2
      go_ret
      have : s.data.toList.take k = s.data.toList := List.take_of_length_le (by simp; omega)
      rw [← this, HR.out]; exact ⟨rfl, rfl⟩

/-- The locks of the first k of four that are free. -/
def fr (opn : List UInt8) : Nat → List UInt8
  | 0 => []
  | k + 1 => fr opn k ++ (if inU opn (UInt8.ofNat (65 + k)) then [] else [UInt8.ofNat (65 + k)])

theorem fr_yes {opn : List UInt8} {k : Nat} (e : inU opn (UInt8.ofNat (65 + k)) = true) : fr opn (k + 1) = fr opn k := by rw [fr, e]; simp
theorem fr_no {opn : List UInt8} {k : Nat} (e : inU opn (UInt8.ofNat (65 + k)) = false) : fr opn (k + 1) = fr opn k ++ [UInt8.ofNat (65 + k)] := by rw [fr, e]; rfl

theorem fr_mem (opn : List UInt8) (k : Nat) (hk : k ≤ 4) : ∀ c ∈ fr opn k, inU [65, 66, 67, 68] c = true ∧ inU opn c = false := by
  induction k with
  | zero => intro c hc; simp [fr] at hc
  | succ k ih =>
    intro c hc
    cases e : inU opn (UInt8.ofNat (65 + k)) with
    | true => rw [fr_yes e] at hc; exact ih (by omega) c hc
    | false =>
      rw [fr_no e] at hc
      rcases List.mem_append.1 hc with hc | hc
      · exact ih (by omega) c hc
      · rw [List.mem_singleton] at hc
        subst hc
        refine ⟨?_, e⟩
        have h6 : k = 0 ∨ k = 1 ∨ k = 2 ∨ k = 3 := by omega
        rcases h6 with rfl | rfl | rfl | rfl <;> decide

def FreeAt (opn : List UInt8) (k : Nat) (o : ByteArray) : Prop := o.data.toList = fr opn k

def Freed (w w' : World) (mb : Nat) (la : Option Addr) (ln lc at_ : Nat) (text opn : ByteArray) (ac : Nat) (e : Ending) : Prop :=
  ∃ o : ByteArray, o.size ≤ 4 ∧ FreeAt opn.data.toList 4 o ∧ e = .returned (.string o) ∧ MM w' mb la ln lc at_ text opn ac ∧ Below mb w w'

set_option maxHeartbeats 3200000 in
set_option maxRecDepth 100000 in
theorem free_any (mb : Nat) (la : Option Addr) (ln lc at_ : Nat) (text opn : ByteArray) (ac : Nat) (w : World) (h : MM w mb la ln lc at_ text opn ac) :
    Calls Try.prog 38 #[.pointer (some ⟨mb, 0, none⟩)] w fun e w' => Freed w w' mb la ln lc at_ text opn ac e := by
  have HM : Hid (MM w mb la ln lc at_ text opn ac) := h
  have hos := h.os
  clear h
  go_enter Try.func38, Try.ntmps38
  go_wp2
  go_loopw [3, 4] (fun ov i wr => ∃ (k : Nat) (o : ByteArray), k ≤ 4 ∧ i = .int .i64 k ∧ ov = .string o ∧ o.size ≤ k ∧ FreeAt opn.data.toList k o ∧ MM wr mb la ln lc at_ text opn ac ∧ Below mb w wr) (fun _ i _ => 4 - (intOf i).toNat)
  case atStart => exact ⟨0, ⟨#[]⟩, by decide, rfl, rfl, by decide, rfl, HM.out, Below.refl _ _⟩
  case round =>
    obtain ⟨k, o, hk, rfl, rfl, hosz, hfr, hm, hbe⟩ := hrel
    have c3 := hm.c3
    have c4 := hm.c4
    have HM1 : Hid (MM wr mb la ln lc at_ text opn ac) := hm
    have HB1 : Hid (Below mb w wr) := hbe
    have HFR : Hid (FreeAt opn.data.toList k o) := hfr
    clear hm hbe hfr
    have h6 : k = 0 ∨ k = 1 ∨ k = 2 ∨ k = 3 ∨ k = 4 := by omega
    rcases h6 with rfl | rfl | rfl | rfl | rfl
    · cases hin : inU opn.data.toList (UInt8.ofNat (65 + 0)) with
      | true =>
        have HN : Hid (fr opn.data.toList 1 = fr opn.data.toList 0) := fr_yes hin
        have HST : Hid (∀ wx, Calls Try.prog 10 #[.string opn, .int .u8 (((ByteArray.mk #[65, 66, 67, 68])[0]).toNat : Int)] wx fun e w' => e = .returned (.bool true) ∧ w' = wx) := by
          intro wx
          have := kstands_any opn (ByteArray.mk #[65, 66, 67, 68])[0] wx (by unfold maxLen; omega)
          rw [show inU opn.data.toList (ByteArray.mk #[65, 66, 67, 68])[0] = true from hin] at this
          exact this
        clear hin
        go_wp2
        go_quiet ((go_at_call 10; exact Calls.quiet_of_same (HST.out _)))
        go_wp2
        go_roundw
        case rel => exact ⟨1, o, by decide, rfl, rfl, by omega, (show o.data.toList = fr opn.data.toList 1 by rw [HN.out]; exact HFR.out), HM1.out.drewN _, HB1.out.trans (below_drewN' _ _ _)⟩
        case measure => simp [intOf]
      | false =>
        have HN : Hid (fr opn.data.toList 1 = fr opn.data.toList 0 ++ [UInt8.ofNat (65 + 0)]) := fr_no hin
        have HST : Hid (∀ wx, Calls Try.prog 10 #[.string opn, .int .u8 (((ByteArray.mk #[65, 66, 67, 68])[0]).toNat : Int)] wx fun e w' => e = .returned (.bool false) ∧ w' = wx) := by
          intro wx
          have := kstands_any opn (ByteArray.mk #[65, 66, 67, 68])[0] wx (by unfold maxLen; omega)
          rw [show inU opn.data.toList (ByteArray.mk #[65, 66, 67, 68])[0] = false from hin] at this
          exact this
        clear hin
        go_wp2
        go_quiet ((go_at_call 10; exact Calls.quiet_of_same (HST.out _)))
        go_wp2
        go_roundw
        case rel =>
          refine ⟨1, o ++ (ByteArray.mk #[65, 66, 67, 68]).extract 0 1, by decide, rfl, rfl, ?_, ?_, HM1.out.drewN _, HB1.out.trans (below_drewN' _ _ _)⟩
          · rw [ByteArray.size_append]
            have : ((ByteArray.mk #[65, 66, 67, 68]).extract 0 1).size = 1 := by decide
            omega
          · show (o ++ (ByteArray.mk #[65, 66, 67, 68]).extract 0 1).data.toList = _
            rw [cat_data, HN.out, show o.data.toList = fr opn.data.toList 0 from HFR.out]
            rfl
        case measure => simp [intOf]
    · cases hin : inU opn.data.toList (UInt8.ofNat (65 + 1)) with
      | true =>
        have HN : Hid (fr opn.data.toList 2 = fr opn.data.toList 1) := fr_yes hin
        have HST : Hid (∀ wx, Calls Try.prog 10 #[.string opn, .int .u8 (((ByteArray.mk #[65, 66, 67, 68])[1]).toNat : Int)] wx fun e w' => e = .returned (.bool true) ∧ w' = wx) := by
          intro wx
          have := kstands_any opn (ByteArray.mk #[65, 66, 67, 68])[1] wx (by unfold maxLen; omega)
          rw [show inU opn.data.toList (ByteArray.mk #[65, 66, 67, 68])[1] = true from hin] at this
          exact this
        clear hin
        go_wp2
        go_quiet ((go_at_call 10; exact Calls.quiet_of_same (HST.out _)))
        go_wp2
        go_roundw
        case rel => exact ⟨2, o, by decide, rfl, rfl, by omega, (show o.data.toList = fr opn.data.toList 2 by rw [HN.out]; exact HFR.out), HM1.out.drewN _, HB1.out.trans (below_drewN' _ _ _)⟩
        case measure => simp [intOf]
      | false =>
        have HN : Hid (fr opn.data.toList 2 = fr opn.data.toList 1 ++ [UInt8.ofNat (65 + 1)]) := fr_no hin
        have HST : Hid (∀ wx, Calls Try.prog 10 #[.string opn, .int .u8 (((ByteArray.mk #[65, 66, 67, 68])[1]).toNat : Int)] wx fun e w' => e = .returned (.bool false) ∧ w' = wx) := by
          intro wx
          have := kstands_any opn (ByteArray.mk #[65, 66, 67, 68])[1] wx (by unfold maxLen; omega)
          rw [show inU opn.data.toList (ByteArray.mk #[65, 66, 67, 68])[1] = false from hin] at this
          exact this
        clear hin
        go_wp2
        go_quiet ((go_at_call 10; exact Calls.quiet_of_same (HST.out _)))
        go_wp2
        go_roundw
        case rel =>
          refine ⟨2, o ++ (ByteArray.mk #[65, 66, 67, 68]).extract 1 2, by decide, rfl, rfl, ?_, ?_, HM1.out.drewN _, HB1.out.trans (below_drewN' _ _ _)⟩
          · rw [ByteArray.size_append]
            have : ((ByteArray.mk #[65, 66, 67, 68]).extract 1 2).size = 1 := by decide
            omega
          · show (o ++ (ByteArray.mk #[65, 66, 67, 68]).extract 1 2).data.toList = _
            rw [cat_data, HN.out, show o.data.toList = fr opn.data.toList 1 from HFR.out]
            rfl
        case measure => simp [intOf]
    · cases hin : inU opn.data.toList (UInt8.ofNat (65 + 2)) with
      | true =>
        have HN : Hid (fr opn.data.toList 3 = fr opn.data.toList 2) := fr_yes hin
        have HST : Hid (∀ wx, Calls Try.prog 10 #[.string opn, .int .u8 (((ByteArray.mk #[65, 66, 67, 68])[2]).toNat : Int)] wx fun e w' => e = .returned (.bool true) ∧ w' = wx) := by
          intro wx
          have := kstands_any opn (ByteArray.mk #[65, 66, 67, 68])[2] wx (by unfold maxLen; omega)
          rw [show inU opn.data.toList (ByteArray.mk #[65, 66, 67, 68])[2] = true from hin] at this
          exact this
        clear hin
        go_wp2
        go_quiet ((go_at_call 10; exact Calls.quiet_of_same (HST.out _)))
        go_wp2
        go_roundw
        case rel => exact ⟨3, o, by decide, rfl, rfl, by omega, (show o.data.toList = fr opn.data.toList 3 by rw [HN.out]; exact HFR.out), HM1.out.drewN _, HB1.out.trans (below_drewN' _ _ _)⟩
        case measure => simp [intOf]
      | false =>
        have HN : Hid (fr opn.data.toList 3 = fr opn.data.toList 2 ++ [UInt8.ofNat (65 + 2)]) := fr_no hin
        have HST : Hid (∀ wx, Calls Try.prog 10 #[.string opn, .int .u8 (((ByteArray.mk #[65, 66, 67, 68])[2]).toNat : Int)] wx fun e w' => e = .returned (.bool false) ∧ w' = wx) := by
          intro wx
          have := kstands_any opn (ByteArray.mk #[65, 66, 67, 68])[2] wx (by unfold maxLen; omega)
          rw [show inU opn.data.toList (ByteArray.mk #[65, 66, 67, 68])[2] = false from hin] at this
          exact this
        clear hin
        go_wp2
        go_quiet ((go_at_call 10; exact Calls.quiet_of_same (HST.out _)))
        go_wp2
        go_roundw
        case rel =>
          refine ⟨3, o ++ (ByteArray.mk #[65, 66, 67, 68]).extract 2 3, by decide, rfl, rfl, ?_, ?_, HM1.out.drewN _, HB1.out.trans (below_drewN' _ _ _)⟩
          · rw [ByteArray.size_append]
            have : ((ByteArray.mk #[65, 66, 67, 68]).extract 2 3).size = 1 := by decide
            omega
          · show (o ++ (ByteArray.mk #[65, 66, 67, 68]).extract 2 3).data.toList = _
            rw [cat_data, HN.out, show o.data.toList = fr opn.data.toList 2 from HFR.out]
            rfl
        case measure => simp [intOf]
    · cases hin : inU opn.data.toList (UInt8.ofNat (65 + 3)) with
      | true =>
        have HN : Hid (fr opn.data.toList 4 = fr opn.data.toList 3) := fr_yes hin
        have HST : Hid (∀ wx, Calls Try.prog 10 #[.string opn, .int .u8 (((ByteArray.mk #[65, 66, 67, 68])[3]).toNat : Int)] wx fun e w' => e = .returned (.bool true) ∧ w' = wx) := by
          intro wx
          have := kstands_any opn (ByteArray.mk #[65, 66, 67, 68])[3] wx (by unfold maxLen; omega)
          rw [show inU opn.data.toList (ByteArray.mk #[65, 66, 67, 68])[3] = true from hin] at this
          exact this
        clear hin
        go_wp2
        go_quiet ((go_at_call 10; exact Calls.quiet_of_same (HST.out _)))
        go_wp2
        go_roundw
        case rel => exact ⟨4, o, by decide, rfl, rfl, by omega, (show o.data.toList = fr opn.data.toList 4 by rw [HN.out]; exact HFR.out), HM1.out.drewN _, HB1.out.trans (below_drewN' _ _ _)⟩
        case measure => simp [intOf]
      | false =>
        have HN : Hid (fr opn.data.toList 4 = fr opn.data.toList 3 ++ [UInt8.ofNat (65 + 3)]) := fr_no hin
        have HST : Hid (∀ wx, Calls Try.prog 10 #[.string opn, .int .u8 (((ByteArray.mk #[65, 66, 67, 68])[3]).toNat : Int)] wx fun e w' => e = .returned (.bool false) ∧ w' = wx) := by
          intro wx
          have := kstands_any opn (ByteArray.mk #[65, 66, 67, 68])[3] wx (by unfold maxLen; omega)
          rw [show inU opn.data.toList (ByteArray.mk #[65, 66, 67, 68])[3] = false from hin] at this
          exact this
        clear hin
        go_wp2
        go_quiet ((go_at_call 10; exact Calls.quiet_of_same (HST.out _)))
        go_wp2
        go_roundw
        case rel =>
          refine ⟨4, o ++ (ByteArray.mk #[65, 66, 67, 68]).extract 3 4, by decide, rfl, rfl, ?_, ?_, HM1.out.drewN _, HB1.out.trans (below_drewN' _ _ _)⟩
          · rw [ByteArray.size_append]
            have : ((ByteArray.mk #[65, 66, 67, 68]).extract 3 4).size = 1 := by decide
            omega
          · show (o ++ (ByteArray.mk #[65, 66, 67, 68]).extract 3 4).data.toList = _
            rw [cat_data, HN.out, show o.data.toList = fr opn.data.toList 3 from HFR.out]
            rfl
        case measure => simp [intOf]
    · go_wp2
      go_ret
      exact ⟨o, hosz, HFR.out, rfl, HM1.out, HB1.out⟩

end Go.Proofs.Ytnpkambjlfkhgaa
