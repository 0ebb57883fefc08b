import Derived.Test.YtdgkpkdinfklaaaGR
import Derived.Test.YtdgkpkdinfklaaaGS
import Derived.Test.YtdgkpkdinfklaaaGTA
import Derived.Test.YtdgkpkdinfklaaaGI
import Derived.Test.YtdgkpkdinfklaaaGE
namespace Go.Proofs.Ytdgkpkdinfklaaa
open Go.RowKit
set_option maxHeartbeats 800000 in
theorem ksame_any (Ba Bb : Nat) (xa xb : Option Addr) (ca cb n : Nat) (l : List Int) (w : World) (hn : n = l.length) (ha : w.ownsRow Ba 3 1 (.slice xa n ca) n (intsV l)) (hb : w.ownsRow Bb 3 1 (.slice xb n cb) n (intsV l)) (hc : n ≤ 1000) :
  Calls Try.prog 22 #[.slice xa n ca, .slice xb n cb] w fun e w' => e = .returned (.bool true) ∧ ∃ k, w' = w.drewN k := by
 have HA : Hid (w.ownsRow Ba 3 1 (.slice xa n ca) n (intsV l)) := ha
 have HB : Hid (w.ownsRow Bb 3 1 (.slice xb n cb) n (intsV l)) := hb
 have HN : Hid (n = l.length) := hn
 clear ha hb hn
 go_enter Try.func22, Try.ntmps22
 go_wp2
 go_loopw [5] (fun i wr => ∃ k q : Nat, k ≤ n ∧ i = .int .i64 k ∧ wr = w.drewN q) (fun i _ => n - (intOf i).toNat)
 case atStart => exact ⟨0, 0, Nat.zero_le _, rfl, rfl⟩
 case round =>
  obtain ⟨k, q, hk, rfl, rfl⟩ := hrel
  by_cases hlt : k < n
  ·obtain ⟨m, hm⟩ : ∃ m, l[k]? = some m := ⟨l[k]'(by rw [← HN.out]; exact hlt), List.getElem?_eq_getElem _⟩
   obtain ⟨ga, cap', hva, _, _⟩ := HA.out.form (by omega)
   obtain ⟨gb, cap'', hvb, _, _⟩ := HB.out.form (by omega)
   cases hva
   cases hvb
   have p0 : w.cell? ⟨ga, k, none⟩ = some (.int .i64 m) := (HA.out.cellAt k (by omega)).trans (by rw [intsV, List.getElem?_map, hm]; rfl)
   have q0 : w.cell? ⟨gb, k, none⟩ = some (.int .i64 m) := (HB.out.cellAt k (by omega)).trans (by rw [intsV, List.getElem?_map, hm]; rfl)
   clear hm
   have hkn : (k : Int) < (n : Int) := by omega
   go_wp2
   go_quiet (fail)
   go_wp2
   exact ⟨⟨k + 1, _, by omega, by go_num, rfl⟩, by simp [intOf]; omega⟩
  ·go_wp2
   go_ret
   exact ⟨rfl, _, rfl⟩
end Go.Proofs.Ytdgkpkdinfklaaa
