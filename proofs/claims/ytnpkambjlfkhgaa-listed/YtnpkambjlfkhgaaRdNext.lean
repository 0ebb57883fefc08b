import Derived.Test.YtnpkambjlfkhgaaRd
namespace Go.Proofs.Ytnpkambjlfkhgaa
open Go.RowKit

theorem u8_beq (a b : UInt8) : ((a.toNat : Int) == (b.toNat : Int)) = (a == b) := by
  rw [Bool.eq_iff_iff]; simp [← UInt8.toNat_inj]; omega

theorem find_hit (al : ByteArray) (c : UInt8) (k : Nat) (h : k < al.size) (h0 : (al.data.toList.take k).findIdx? (· == c) = none) (he : ((al[k].toNat : Int) == (c.toNat : Int)) = true) : al.data.toList.findIdx? (· == c) = some k := by
  rw [List.findIdx?_eq_some_iff_getElem]
  have hk : k < al.data.toList.length := by simpa using h
  refine ⟨hk, by rw [u8_beq] at he; exact he, fun j hj hc => ?_⟩
  rw [List.findIdx?_eq_none_iff] at h0
  have hjl : j < al.data.toList.length := by omega
  have := h0 al.data.toList[j] (by rw [List.mem_take_iff_getElem]; exact ⟨j, by omega, rfl⟩)
  rw [this] at hc; cases hc

theorem find_miss (al : ByteArray) (c : UInt8) (k : Nat) (h : k < al.size) (h0 : (al.data.toList.take k).findIdx? (· == c) = none) (he : ((al[k].toNat : Int) == (c.toNat : Int)) = false) : (al.data.toList.take (k + 1)).findIdx? (· == c) = none := by
  rw [List.take_succ_eq_append_getElem (by simpa using h), List.findIdx?_append, h0]
  rw [u8_beq] at he
  have : (al.data.toList[k]'(by simpa using h) == c) = false := he
  rw [List.findIdx?_cons, this]; rfl

set_option maxHeartbeats 800000 in
set_option maxRecDepth 100000 in
theorem next_end (b : Nat) (al : ByteArray) (s : ByteArray) (pl : Nat) (th : Int) (op : List OP) (mk : List ST) (ao co am cm) (w : World) (h : RD w b s pl th op mk ao co am cm) (_hs : s.size ≤ maxLen) (_hp : pl ≤ 1000) (_hno : s.size ≤ pl) :
    Calls Try.prog 53 #[.pointer (some ⟨b, 0, none⟩), .string al] w fun e w' => e = .returned (.int .i64 (-1)) ∧ ∃ n, w' = w.drewN n := by
  have c0 := h.c0
  have c1 := h.c1
  clear h
  go_enter Try.func53, Try.ntmps53
  go_wp2
  go_quiet (fail)
  go_wp2
  go_ret
  exact ⟨rfl, _, rfl⟩

set_option maxHeartbeats 1600000 in
set_option maxRecDepth 100000 in
theorem next_in (b : Nat) (al : ByteArray) (s : ByteArray) (pl : Nat) (th : Int) (op : List OP) (mk : List ST) (ao co am cm) (w : World) (h : RD w b s pl th op mk ao co am cm) (_hs : s.size ≤ maxLen) (ha : al.size ≤ 100) (hp : pl ≤ 1000) (hno : pl < s.size) :
    Calls Try.prog 53 #[.pointer (some ⟨b, 0, none⟩), .string al] w fun e w' =>
      (al.data.toList.findIdx? (· == s[pl]) = none ∧ e = .returned (.int .i64 (-1)) ∧ ∃ n, w' = w.drewN n) ∨
      (∃ i : Nat, al.data.toList.findIdx? (· == s[pl]) = some i ∧ e = .returned (.int .i64 i) ∧ RD w' b s (pl + 1) th op mk ao co am cm ∧ Below b w w') := by
  unfold maxLen at _hs
  have c0 := h.c0
  have c1 := h.c1
  have f1 := h.fz 1
  have H : Hid (RD w b s pl th op mk ao co am cm) := h
  clear h
  go_enter Try.func53, Try.ntmps53
  go_wp2
  go_quiet (fail)
  go_wp2
  go_loopw [5] (fun i wr => ∃ k n : Nat, k ≤ al.size ∧ i = .int .i64 k ∧ wr = w.drewN n ∧ (al.data.toList.take k).findIdx? (· == s[pl]) = none) (fun i _ => al.size - (intOf i).toNat)
  case atStart => exact ⟨0, nq, Nat.zero_le _, rfl, rfl, rfl⟩
  case round =>
    obtain ⟨k, n, hk, rfl, rfl, hr⟩ := hrel
    have HR : Hid ((al.data.toList.take k).findIdx? (· == s[pl]) = none) := hr
    clear hr
    by_cases hlt : k < al.size
    · by_cases he : ((al[k].toNat : Int) == (s[pl].toNat : Int)) = true
      · go_wp2
        go_quiet (fail)
        go_wp2
        go_ret
        right
        exact ⟨k, find_hit al _ k hlt HR.out he, rfl, (H.out.drewN _).place (pl + 1), (below_drewN' _ _ _).setCell (by simp) _⟩
      · have he' : ((al[k].toNat : Int) == (s[pl].toNat : Int)) = false := by simpa using he
        clear he
        go_wp2
        go_quiet (fail)
        go_wp2
        go_roundw
        case rel => exact ⟨k + 1, _, by omega, by go_num, rfl, find_miss al _ k hlt HR.out he'⟩
        case measure => simp [intOf]; omega
    · go_wp2
      go_ret
      left
      have : al.data.toList.take k = al.data.toList := List.take_of_length_le (by simp; omega)
      rw [this] at HR
      exact ⟨HR.out, rfl, _, rfl⟩

end Go.Proofs.Ytnpkambjlfkhgaa
