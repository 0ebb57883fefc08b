import Derived.Test.YtdgkpkdinfklaabGH
import Derived.Test.YtdgkpkdinfklaabXMaV
import Derived.Test.YtdgkpkdinfklaabGQ
namespace Go.Proofs.Ytdgkpkdinfklaab
open Go.RowKit
def barsL (p : List UInt8) : Nat := (p.filter (· == 124)).length
theorem bars_step {p : ByteArray} {k : Nat} (h : k < p.size) : barsL (p.data.toList.take (k + 1)) = barsL (p.data.toList.take k) + (if p[k] = 124 then 1 else 0) := by
 have hk : k < p.data.toList.length := by simpa using h
 have e : p.data.toList[k] = p[k] := rfl
 unfold barsL
 rw [List.take_succ_eq_append_getElem hk, List.filter_append, List.length_append, e]
 by_cases hc : p[k] = 124
 ·simp [hc]
 ·simp [hc]
theorem barsL_le (l : List UInt8) : barsL l ≤ l.length := List.length_filter_le _ _
set_option maxHeartbeats 800000 in
set_option maxRecDepth 100000 in
theorem kthreads_any (p : ByteArray) (w : World) (hp : p.size ≤ 1000) :
  Calls Try.prog 29 #[.string p] w fun e w' => e = .returned (.int .i64 (splitBar p.data.toList).length) ∧ w' = w := by
 have HC : Hid ((splitBar p.data.toList).length = barsL p.data.toList + 1) := splitBar_count _
 go_enter Try.func29, Try.ntmps29
 go_wp2
 go_loopw [3, 4] (fun v i wr => ∃ k : Nat, k ≤ p.size ∧ i = .int .i64 k ∧ v = .int .i64 ((barsL (p.data.toList.take k) : Int) + 1) ∧ wr = w) (fun _ i _ => p.size - (intOf i).toNat)
 case atStart => exact ⟨0, Nat.zero_le _, rfl, rfl, rfl⟩
 case round =>
  obtain ⟨k, hk, rfl, rfl, rfl⟩ := hrel
  have hb : barsL (p.data.toList.take k) ≤ k := Nat.le_trans (barsL_le _) (List.length_take_le _ _)
  obtain ⟨m, hm⟩ : ∃ m, m = barsL (p.data.toList.take k) := ⟨_, rfl⟩
  by_cases hlt : k < p.size
  ·have hs := bars_step hlt
   rw [← hm] at hs hb ⊢
   by_cases hc : p[k] = 124
   ·have bc : (p[k].toNat : Int) = 124 := by rw [hc]; rfl
    rw [if_pos hc] at hs
    have HS : Hid (barsL (p.data.toList.take (k + 1)) = m + 1) := hs
    clear hs hm hc
    go_wp2
    go_roundw
    case rel => exact ⟨k + 1, by omega, by go_num, by rw [HS.out]; go_num, by first | rfl | trivial⟩
    case measure => simp [intOf]; omega
   ·have bc : ((p[k].toNat : Int) == 124) = false := u8_ne hc
    rw [if_neg hc] at hs
    have HS : Hid (barsL (p.data.toList.take (k + 1)) = m) := hs
    clear hs hm hc
    go_wp2
    go_roundw
    case rel => exact ⟨k + 1, by omega, by go_num, by rw [HS.out], by first | rfl | trivial⟩
    case measure => simp [intOf]; omega
  ·have HE : Hid (((splitBar p.data.toList).length : Int) = (m : Int) + 1) := by
    show _ = _
    rw [HC.out, hm, List.take_of_length_le (by simp; omega)]
    omega
   rw [← hm]
   clear hm hb
   go_wp2
   go_ret
   exact ⟨by rw [HE.out]; rfl, rfl⟩
end Go.Proofs.Ytdgkpkdinfklaab
