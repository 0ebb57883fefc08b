import Derived.Test.YtdgkpkdinfklaabGRPA
import Derived.Test.YtdgkpkdinfklaabGSP
import Derived.Test.YtdgkpkdinfklaabGF
import Derived.Test.YtdgkpkdinfklaabGH
namespace Go.Proofs.Ytdgkpkdinfklaab
open Go.RowKit
def cntC (c : UInt8) (l : List UInt8) : Nat := (l.filter (· == c)).length
theorem cntC_step {p : ByteArray} {k : Nat} (c : UInt8) (h : k < p.size) : cntC c (p.data.toList.take (k + 1)) = cntC c (p.data.toList.take k) + (if p[k] = c then 1 else 0) := by
 have hk : k < p.data.toList.length := by simpa using h
 have e : p.data.toList[k] = p[k] := rfl
 unfold cntC
 rw [List.take_succ_eq_append_getElem hk, List.filter_append, List.length_append, e]
 by_cases hc : p[k] = c
 ·simp [hc]
 ·simp [hc]
theorem cntC_le (c : UInt8) (l : List UInt8) : cntC c l ≤ l.length := List.length_filter_le _ _
set_option maxHeartbeats 800000 in
set_option maxRecDepth 100000 in
theorem kcount_any (p : ByteArray) (c : UInt8) (w : World) (hp : p.size ≤ 1000) :
  Calls Try.prog 22 #[.string p, .int .u8 (c.toNat : Int)] w fun e w' => e = .returned (.int .i64 (cntC c p.data.toList)) ∧ w' = w := by
 go_enter Try.func22, Try.ntmps22
 go_wp2
 go_loopw [5, 6] (fun v i wr => ∃ k : Nat, k ≤ p.size ∧ i = .int .i64 k ∧ v = .int .i64 (cntC c (p.data.toList.take k) : Int) ∧ wr = w) (fun _ i _ => p.size - (intOf i).toNat)
 case atStart => exact ⟨0, Nat.zero_le _, rfl, rfl, rfl⟩
 case round =>
  obtain ⟨k, hk, rfl, rfl, rfl⟩ := hrel
  have hb : cntC c (p.data.toList.take k) ≤ k := Nat.le_trans (cntC_le _ _) (List.length_take_le _ _)
  obtain ⟨m, hm⟩ : ∃ m, m = cntC c (p.data.toList.take k) := ⟨_, rfl⟩
  by_cases hlt : k < p.size
  ·have hs := cntC_step c hlt
   rw [← hm] at hs hb ⊢
   by_cases hc : p[k] = c
   ·have bc : ((p[k].toNat : Int) == (c.toNat : Int)) = true := by rw [hc]; simp
    rw [if_pos hc] at hs
    have HS : Hid (cntC c (p.data.toList.take (k + 1)) = m + 1) := hs
    clear hs hm hc
    go_wp2
    go_roundw
    case rel => exact ⟨k + 1, by omega, by go_num, by rw [HS.out]; go_num, by first | rfl | trivial⟩
    case measure => simp [intOf]; omega
   ·have bc : ((p[k].toNat : Int) == (c.toNat : Int)) = false := by
     cases hx : ((p[k].toNat : Int) == (c.toNat : Int)) with
     | false => rfl
     | true => exact absurd (UInt8.toNat_inj.1 (by have := beq_iff_eq.1 hx; omega)) hc
    rw [if_neg hc] at hs
    have HS : Hid (cntC c (p.data.toList.take (k + 1)) = m) := hs
    clear hs hm hc
    go_wp2
    go_roundw
    case rel => exact ⟨k + 1, by omega, by go_num, by rw [HS.out], by first | rfl | trivial⟩
    case measure => simp [intOf]; omega
  ·have HE : Hid (m = cntC c p.data.toList) := by
    show _ = _
    rw [hm, List.take_of_length_le (by simp; omega)]
   rw [← hm]
   clear hm hb
   go_wp2
   go_ret
   exact ⟨by rw [← HE.out]; rfl, rfl⟩
end Go.Proofs.Ytdgkpkdinfklaab
