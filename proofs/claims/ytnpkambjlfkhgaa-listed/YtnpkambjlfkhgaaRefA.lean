import Derived.Test.YtnpkambjlfkhgaaProg
import Derived.Test.YtnpkambjlfkhgaaPure
import Derived.WalkKit
import Derived.WalkSpells
import Derived.WalkLawsBesides
import Derived.Deep.QuietTactic
import Derived.BigQuiet
namespace Go.Proofs.Ytnpkambjlfkhgaa
open Go.RowKit

theorem take_snoc (s : ByteArray) (k : Nat) (h : k < s.size) : s.data.toList.take (k + 1) = s.data.toList.take k ++ [s[k]] := by
  rw [List.take_succ_eq_append_getElem (by simpa using h)]; rfl

theorem u8q (a b : UInt8) : ((a.toNat : Int) == (b.toNat : Int)) = (a == b) := by
  rw [Bool.eq_iff_iff]; simp [← UInt8.toNat_inj]; omega

theorem u8t {a b : UInt8} (h : ((a.toNat : Int) == (b.toNat : Int)) = true) : a = b := by rw [u8q] at h; simpa using h
theorem u8f {a b : UInt8} (h : ((a.toNat : Int) == (b.toNat : Int)) = false) : a ≠ b := by rw [u8q] at h; simpa using h
theorem u8g {a b : UInt8} (h : a ≠ b) : ((a.toNat : Int) == (b.toNat : Int)) = false := by rw [u8q]; simpa using h

theorem inU_snoc (l : List UInt8) (b c : UInt8) : inU (l ++ [b]) c = (inU l c || (b == c)) := by simp [inU]

theorem inU_hit (s : ByteArray) (k : Nat) (h : k < s.size) (c : UInt8) (e : ((s[k].toNat : Int) == (c.toNat : Int)) = true) : inU s.data.toList c = true := by
  unfold inU
  rw [List.any_eq_true]
  exact ⟨s[k], by simp [ByteArray.getElem_eq_getElem_data], by simpa using u8t e⟩

theorem ret_open {a b : List UInt8} {x y : Bool} (h : a = b) (k : x = y) : Ending.returned (.tuple #[.string ⟨a.toArray⟩, .bool x]) = .returned (.tuple #[.string ⟨b.toArray⟩, .bool y]) := by rw [h, k]

end Go.Proofs.Ytnpkambjlfkhgaa
