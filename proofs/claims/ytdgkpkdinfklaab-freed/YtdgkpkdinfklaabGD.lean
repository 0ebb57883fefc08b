import Derived.Test.YtdgkpkdinfklaabProg
import Derived.Test.YtdgkpkdinfklaabGA
import Derived.WalkKit
import Derived.WalkSpells
import Derived.WalkLawsBesides
import Derived.Deep.QuietTactic
import Derived.BigQuiet
import Derived.Lib.Strings
import Derived.Lib.IndexBytes
namespace Go.Proofs.Ytdgkpkdinfklaab
open Go.RowKit
theorem take_snoc (s : ByteArray) (k : Nat) (h : k < s.size) : s.data.toList.take (k + 1) = s.data.toList.take k ++ [s[k]] := by
 rw [List.take_succ_eq_append_getElem (by simpa using h)]; rfl
theorem u8q (a b : UInt8) : ((a.toNat : Int) == (b.toNat : Int)) = (a == b) := by
 rw [Bool.eq_iff_iff]; simp [← UInt8.toNat_inj]; omega
theorem u8t {a b : UInt8} (h : ((a.toNat : Int) == (b.toNat : Int)) = true) : a = b := by rw [u8q] at h; simpa using h
theorem u8f {a b : UInt8} (h : ((a.toNat : Int) == (b.toNat : Int)) = false) : a ≠ b := by rw [u8q] at h; simpa using h
theorem u8g {a b : UInt8} (h : a ≠ b) : ((a.toNat : Int) == (b.toNat : Int)) = false := by rw [u8q]; simpa using h
theorem inU_snoc (l : List UInt8) (b c : UInt8) : inU (l ++ [b]) c = (inU l c || (b == c)) := by simp [inU]
theorem inU_hit (s : ByteArray) (k : Nat) (h : k < s.size) (c : UInt8) (e : ((s[k].toNat : Int) == (c.toNat : Int)) = true) : inU s.data.toList c = true := by
 unfold inU
 rw [List.any_eq_true]
 exact ⟨s[k], by simp [ByteArray.getElem_eq_getElem_data], by simpa using u8t e⟩
end Go.Proofs.Ytdgkpkdinfklaab

namespace Go.Proofs.Ytdgkpkdinfklaab
open Go.RowKit
theorem cat_data (a b : ByteArray) : (a ++ b).data.toList = a.data.toList ++ b.data.toList := by simp [ByteArray.data_append]
theorem tail_data (f : ByteArray) (k : Nat) : (f.extract k f.size).data.toList = f.data.toList.drop k := by
 rw [Lib.extract_data, List.take_of_length_le (by simp)]
theorem ne_empty (f : ByteArray) (h : 0 < f.size) : f.toList.isEmpty = false := by
 have hl : f.data.toList.length = f.size := by simp
 rw [ByteArray.toList_eq, List.isEmpty_eq_false_iff]
 intro hn
 rw [hn] at hl
 simp at hl
 omega
end Go.Proofs.Ytdgkpkdinfklaab

namespace Go.Proofs.Ytdgkpkdinfklaab
open Go.RowKit
theorem fw_next {p : List UInt8} {k : Nat} {f g : List UInt8} {c : UInt8} (h : fw p k = some f) (hc : p[k]? = some c) (hg : fw p (k + 1) = some g) : (nxt f c).2 = true ∧ (nxt f c).1 = g := by
 rw [fw, h, hc] at hg
 simp only at hg
 split at hg
 ·rename_i h2
  cases hg
  exact ⟨h2, rfl⟩
 ·cases hg
theorem byteAt (s : ByteArray) (k : Nat) (h : k < s.size) : s.data.toList[k]? = some s[k] := by
 rw [List.getElem?_eq_getElem (by simpa using h)]; rfl
theorem len_eq (s : ByteArray) : s.data.toList.length = s.size := by simp
theorem nest_mk {i : Nat} {th : Int} {d : UInt8} {now : List UInt8} (h : MkOk (mkN 3 i th (d.toNat - 65) now)) : nestB (mkN 3 i th (d.toNat - 65) now) = inU now d := by
 have hd : (d.toNat : Int) - 65 = 0 ∨ (d.toNat : Int) - 65 = 1 ∨ (d.toNat : Int) - 65 = 2 ∨ (d.toNat : Int) - 65 = 3 ∨ (d.toNat : Int) - 65 = 4 := by
  rcases h with ⟨_, h1, h2⟩ | ⟨h0, _⟩
  ·simp only [mkN] at h1 h2; omega
  ·simp [mkN] at h0
 have key : ∀ n : Nat, n < 5 → (d.toNat : Int) - 65 = n → d = UInt8.ofNat (65 + n) := by
  intro n hn e
  apply UInt8.toNat_inj.1
  have : d.toNat = 65 + n := by omega
  rw [this, UInt8.toNat_ofNat_of_lt' (by show 65 + n < 256; omega)]
 rcases hd with e | e | e | e | e
 ·have hk := key 0 (by decide) (by simpa using e); subst hk; simp [nestB, mkN]
 ·have hk := key 1 (by decide) (by simpa using e); subst hk; simp [nestB, mkN]
 ·have hk := key 2 (by decide) (by simpa using e); subst hk; simp [nestB, mkN]
 ·have hk := key 3 (by decide) (by simpa using e); subst hk; simp [nestB, mkN]
 ·have hk := key 4 (by decide) (by simpa using e); subst hk; simp [nestB, mkN]
def nestOf (mks : List MK) : Int × Int := match mks.find? nestB with | none => (0, 0) | some m => (3, m.place)
theorem tw_at {p : List UInt8} {k : Nat} {c : UInt8} (hlt : (tw p k).i < p.length) (hc : p[(tw p k).i]? = some c) : (tw p (k + 1)).i = (tw p k).i + sizeU c ∧ (tw p (k + 1)).now = heldU (tw p k).now p (tw p k).i ∧
  (tw p (k + 1)).th = (if c = 124 then (tw p k).th + 1 else (tw p k).th) ∧
  (tw p (k + 1)).mks = (if c = 91 ∨ c = 60 then (tw p k).mks ++ [mkN 3 (tw p k).i (tw p k).th (((p[(tw p k).i + 1]?).getD 0).toNat - 65) (tw p k).now]
   else if c = 103 ∨ c = 112 then (tw p k).mks ++ [mkN (if c = 112 then 2 else 1) (tw p k).i (tw p k).th (((p[(tw p k).i + 1]?).getD 0).toNat - 120) (tw p k).now]
   else (tw p k).mks) := by
 rw [tw, if_pos hlt, tstep, hc]
 exact ⟨rfl, rfl, rfl, rfl⟩
end Go.Proofs.Ytdgkpkdinfklaab
