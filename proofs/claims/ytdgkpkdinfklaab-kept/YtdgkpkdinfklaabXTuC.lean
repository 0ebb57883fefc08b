import Derived.Test.YtdgkpkdinfklaabGR
import Derived.Test.YtdgkpkdinfklaabGS
import Derived.Test.YtdgkpkdinfklaabGT
import Derived.Test.YtdgkpkdinfklaabGI
import Derived.Test.YtdgkpkdinfklaabGE
namespace Go.Proofs.Ytdgkpkdinfklaab
open Go.RowKit

/-! ### The comparison -/
set_option maxHeartbeats 800000 in
theorem ksame_any (Ba Bb : Nat) (xa xb : Option Addr) (ca cb n : Nat) (l : List Int) (w : World) (hn : n = l.length) (ha : w.ownsRow Ba 3 1 (.slice xa n ca) n (intsV l)) (hb : w.ownsRow Bb 3 1 (.slice xb n cb) n (intsV l)) (hc : n ≤ 1000) :
    Calls Try.prog 15 #[.slice xa n ca, .slice xb n cb] w fun e w' => e = .returned (.bool true) ∧ ∃ k, w' = w.drewN k := by
  have HA : Hid (w.ownsRow Ba 3 1 (.slice xa n ca) n (intsV l)) := ha
  have HB : Hid (w.ownsRow Bb 3 1 (.slice xb n cb) n (intsV l)) := hb
  have HN : Hid (n = l.length) := hn
  clear ha hb hn
  go_enter Try.func15, Try.ntmps15
  go_wp2
  go_loopw [5] (fun i wr => ∃ k q : Nat, k ≤ n ∧ i = .int .i64 k ∧ wr = w.drewN q) (fun i _ => n - (intOf i).toNat)
  case atStart => exact ⟨0, 0, Nat.zero_le _, rfl, rfl⟩
  case round =>
    obtain ⟨k, q, hk, rfl, rfl⟩ := hrel
    by_cases hlt : k < n
    · obtain ⟨m, hm⟩ : ∃ m, l[k]? = some m := ⟨l[k]'(by rw [← HN.out]; exact hlt), List.getElem?_eq_getElem _⟩
      obtain ⟨ga, cap', hva, _, _⟩ := HA.out.form (by omega)
      obtain ⟨gb, cap'', hvb, _, _⟩ := HB.out.form (by omega)
      cases hva
      cases hvb
      have p0 : w.cell? ⟨ga, k, none⟩ = some (.int .i64 m) := (HA.out.cellAt k (by omega)).trans (by rw [intsV, List.getElem?_map, hm]; rfl)
      have q0 : w.cell? ⟨gb, k, none⟩ = some (.int .i64 m) := (HB.out.cellAt k (by omega)).trans (by rw [intsV, List.getElem?_map, hm]; rfl)
      clear hm
      have hkn : (k : Int) < (n : Int) := by omega
      go_wp2
      go_quiet (fail)
      go_wp2
      exact ⟨⟨k + 1, _, by omega, by go_num, rfl⟩, by simp [intOf]; omega⟩
    · go_wp2
      go_ret
      exact ⟨rfl, _, rfl⟩

set_option maxHeartbeats 1600000 in
set_option maxRecDepth 100000 in
theorem ksameEnd_any (Ba Bb : Nat) (sd sd' sp ss ss' : ByteArray) (xa xb : Option Addr) (ca cb : Nat) (v4 v4' : Value) (r r' : Int) (l : List Int) (w : World) (_h4 : v4.oneCell' = true) (_h4' : v4'.oneCell' = true) (hn : 3 = l.length) (ha : w.ownsRow Ba 3 1 (.slice xa 3 ca) 3 (intsV l)) (hb : w.ownsRow Bb 3 1 (.slice xb 3 cb) 3 (intsV l)) :
    Calls Try.prog 14 #[.agg #[.string sd, .string sp, .slice xa 3 ca, v4, .int .i64 r, .string ss], .agg #[.string sd', .string sp, .slice xb 3 cb, v4', .int .i64 r', .string ss']] w fun e w' => e = .returned (.bool true) ∧ Below w.heap.size w w' := by
  have HA : Hid (w.ownsRow Ba 3 1 (.slice xa 3 ca) 3 (intsV l)) := ha
  have HB : Hid (w.ownsRow Bb 3 1 (.slice xb 3 cb) 3 (intsV l)) := hb
  have HN : Hid (3 = l.length) := hn
  have BE : Hid (∀ o o', Below w.heap.size w ((w.alloc o).alloc o')) := fun o o' => ((Below.refl _ _).alloc (Nat.le_refl _) o).alloc (by simp) o'
  clear ha hb hn
  go_enter Try.func14, Try.ntmps14
  go_wp2_with fail
  refine (ksame_any Ba Bb xa xb ca cb 3 l _ HN.out ((HA.out.alloc _).alloc _) ((HB.out.alloc _).alloc _) (by decide)).mono ?_
  rintro e w1 ⟨rfl, k, rfl⟩
  go_wp2
  go_ret
  exact ⟨rfl, (BE.out _ _).trans (below_drewN' _ _ _)⟩

end Go.Proofs.Ytdgkpkdinfklaab
