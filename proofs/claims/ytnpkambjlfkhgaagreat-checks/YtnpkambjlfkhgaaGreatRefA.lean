import Derived.Test.YtnpkambjlfkhgaaGreatProg
import Derived.Test.YtnpkambjlfkhgaaGreatPure
import Derived.WalkKit
import Derived.WalkSpells
import Derived.WalkLawsBesides
import Derived.Deep.QuietTactic
import Derived.BigQuiet
namespace Go.Proofs.YtnpkambjlfkhgaaGreat
open Go.RowKit

theorem take_snoc (s : ByteArray) (k : Nat) (h : k < s.size) : s.data.toList.take (k + 1) = s.data.toList.take k ++ [s[k]] := by
  rw [List.take_succ_eq_append_getElem (by simpa using h)]; rfl

theorem u8q (a b : UInt8) : ((a.toNat : Int) == (b.toNat : Int)) = (a == b) := by
  rw [Bool.eq_iff_iff]; simp [← UInt8.toNat_inj]; omega

theorem u8t {a b : UInt8} (h : ((a.toNat : Int) == (b.toNat : Int)) = true) : a = b := by rw [u8q] at h; simpa using h
theorem u8f {a b : UInt8} (h : ((a.toNat : Int) == (b.toNat : Int)) = false) : a ≠ b := by rw [u8q] at h; simpa using h
theorem u8g {a b : UInt8} (h : a ≠ b) : ((a.toNat : Int) == (b.toNat : Int)) = false := by rw [u8q]; simpa using h

theorem inU_snoc (l : List UInt8) (b c : UInt8) : inU (l ++ [b]) c = (inU l c || (b == c)) := by simp [inU]

theorem inU_hit (s : ByteArray) (k : Nat) (h : k < s.size) (c : UInt8) (e : ((s[k].toNat : Int) == (c.toNat : Int)) = true) : inU s.data.toList c = true := by
  unfold inU
  rw [List.any_eq_true]
  exact ⟨s[k], by simp [ByteArray.getElem_eq_getElem_data], by simpa using u8t e⟩

set_option maxHeartbeats 400000 in
theorem in_any (s : ByteArray) (c : UInt8) (w : World) (hs : s.size ≤ maxLen) :
    Calls Tryz.prog 24 #[.string s, .int .u8 (c.toNat : Int)] w fun e w' => e = .returned (.bool (inU s.data.toList c)) ∧ w' = w := by
  unfold maxLen at hs
  go_enter Tryz.func24, Tryz.ntmps24
  go_wp2
  go_loop [5] (fun i => ∃ k : Nat, k ≤ s.size ∧ i = .int .i64 k ∧ inU (s.data.toList.take k) c = false) (fun i => s.size - (intOf i).toNat)
  case atStart => exact ⟨0, Nat.zero_le _, rfl, rfl⟩
  case round =>
    obtain ⟨k, hk, rfl, hr⟩ := hrel
    have HR : Hid (inU (s.data.toList.take k) c = false) := hr
    clear hr
    by_cases hlt : k < s.size
    · by_cases he : ((s[k].toNat : Int) == (c.toNat : Int)) = true
      · have HF : Hid (inU s.data.toList c = true) := inU_hit s k hlt c he
        go_wp2
        go_ret
        rw [HF.out]; exact ⟨rfl, rfl⟩
      · have he' : ((s[k].toNat : Int) == (c.toNat : Int)) = false := by simpa using he
        clear he
        go_wp2
        go_round
        case rel => exact ⟨k + 1, by omega, by go_num, by rw [take_snoc s k hlt, inU_snoc, HR.out]; simpa using u8f he'⟩
        case measure => simp [intOf]; omega
    · go_wp2
      go_ret
      have : s.data.toList.take k = s.data.toList := List.take_of_length_le (by simp; omega)
      rw [← this, HR.out]; exact ⟨rfl, rfl⟩

set_option maxHeartbeats 400000 in
theorem size_any (c : UInt8) (w : World) :
    Calls Tryz.prog 23 #[.int .u8 (c.toNat : Int)] w fun e w' => e = .returned (.int .i64 (sizeU c)) ∧ w' = w := by
  cases hi : inU [103, 112, 105, 91, 60] c with
  | true =>
    have hz : sizeU c = 2 := by simp [sizeU, hi]
    rw [hz]
    go_enter Tryz.func23, Tryz.ntmps23
    go_wp2_with fail
    refine (in_any _ c w (by unfold maxLen; decide)).mono ?_
    rintro e w' ⟨rfl, rfl⟩
    rw [show inU (ByteArray.mk #[103, 112, 105, 91, 60]).data.toList c = true from hi]
    go_wp2
    go_ret
    exact ⟨rfl, rfl⟩
  | false =>
    have hz : sizeU c = 1 := by simp [sizeU, hi]
    rw [hz]
    go_enter Tryz.func23, Tryz.ntmps23
    go_wp2_with fail
    refine (in_any _ c w (by unfold maxLen; decide)).mono ?_
    rintro e w' ⟨rfl, rfl⟩
    rw [show inU (ByteArray.mk #[103, 112, 105, 91, 60]).data.toList c = false from hi]
    go_wp2
    go_ret
    exact ⟨rfl, rfl⟩

theorem ret_open {a b : List UInt8} {x y : Bool} (h : a = b) (k : x = y) : Ending.returned (.tuple #[.string ⟨a.toArray⟩, .bool x]) = .returned (.tuple #[.string ⟨b.toArray⟩, .bool y]) := by rw [h, k]

set_option maxHeartbeats 400000 in
theorem opened_any (c : UInt8) (w : World) :
    Calls Tryz.prog 42 #[.int .u8 (c.toNat : Int)] w fun e w' => e = .returned (.tuple #[.string ⟨((opnL c).getD []).toArray⟩, .bool (opnL c).isSome]) ∧ w' = w := by
  by_cases hc : c = 103 ∨ c = 112 ∨ c = 105 ∨ c = 111 ∨ c = 91 ∨ c = 60 ∨ c = 63 ∨ c = 33
  · rcases hc with rfl | rfl | rfl | rfl | rfl | rfl | rfl | rfl
    all_goals
      simp [opnL]
      go_enter Tryz.func42, Tryz.ntmps42
      go_wp2
      go_ret2
      exact ⟨rfl, rfl⟩
  · simp only [not_or] at hc
    obtain ⟨n1, n2, n3, n4, n5, n6, n7, n8⟩ := hc
    have he : opnL c = none := by simp [opnL, n1, n2, n3, n4, n5, n6, n7, n8]
    rw [he]
    have m1 : ((c.toNat : Int) == 103) = false := u8g n1
    have m2 : ((c.toNat : Int) == 112) = false := u8g n2
    have m3 : ((c.toNat : Int) == 105) = false := u8g n3
    have m4 : ((c.toNat : Int) == 111) = false := u8g n4
    have m5 : ((c.toNat : Int) == 91) = false := u8g n5
    have m6 : ((c.toNat : Int) == 60) = false := u8g n6
    have m7 : ((c.toNat : Int) == 63) = false := u8g n7
    have m8 : ((c.toNat : Int) == 33) = false := u8g n8
    clear n1 n2 n3 n4 n5 n6 n7 n8 he
    go_enter Tryz.func42, Tryz.ntmps42
    go_wp2
    go_ret2
    exact ⟨rfl, rfl⟩

set_option maxHeartbeats 800000 in
theorem stands_any (x c : UInt8) (w : World) :
    Calls Tryz.prog 43 #[.int .u8 (x.toNat : Int), .int .u8 (c.toNat : Int)] w fun e w' => e = .returned (.bool (stB x c)) ∧ w' = w := by
  by_cases hc : x = 118 ∨ x = 110 ∨ x = 108 ∨ x = 107 ∨ x = 97
  · rcases hc with rfl | rfl | rfl | rfl | rfl
    all_goals
      simp only [stB]
      go_enter Tryz.func43, Tryz.ntmps43
      go_wp2_with fail
      refine (in_any _ c w (by unfold maxLen; decide)).mono ?_
      rintro e w' ⟨rfl, rfl⟩
      go_wp2
      go_ret
      exact ⟨rfl, rfl⟩
  · simp only [not_or] at hc
    obtain ⟨n1, n2, n3, n4, n5⟩ := hc
    have he : stB x c = (c == x) := by simp [stB, n1, n2, n3, n4, n5]
    have hu := u8q c x
    rw [he, ← hu]
    have m1 : ((x.toNat : Int) == 118) = false := u8g n1
    have m2 : ((x.toNat : Int) == 110) = false := u8g n2
    have m3 : ((x.toNat : Int) == 108) = false := u8g n3
    have m4 : ((x.toNat : Int) == 107) = false := u8g n4
    have m5 : ((x.toNat : Int) == 97) = false := u8g n5
    clear n1 n2 n3 n4 n5 he hu
    go_enter Tryz.func43, Tryz.ntmps43
    go_wp2
    go_ret
    exact ⟨rfl, rfl⟩

end Go.Proofs.YtnpkambjlfkhgaaGreat
