import Derived.Test.YtnpkambjlfkhgaaLawB
import Derived.Test.YtnpkambjlfkhgaaPure6
import Derived.Laws.BytesArg
namespace Go.Proofs.Ytnpkambjlfkhgaa
open Go.RowKit

theorem Try.infoByte : (Try.prog.info? 5).map (fun i => (i.zero, i.size, i.bytes)) = some (some (.int .u8 0), 1, 1) := by kernel_rfl

theorem addr_at (g j : Nat) : (⟨g, 0, none⟩ : Addr).add j = ⟨g, j, none⟩ := by unfold Addr.add; split <;> simp_all

def byV (l : List UInt8) : List Value := l.map fun b => .int .u8 (b.toNat : Int)

theorem sb_len (p : List UInt8) (n : Nat) : (sb p n).2.length ≤ (sb p n).1 := by
  induction n with
  | zero => exact Nat.le_refl _
  | succ n ih =>
    rw [sb]
    split
    · exact ih
    · split
      · simp only; omega
      · split
        · simp only; omega
        · simp only [List.length_append, List.length_cons, List.length_nil]; omega

theorem sb_le (p : List UInt8) (n : Nat) : (sb p n).1 ≤ p.length + 1 := by
  induction n with
  | zero => exact Nat.zero_le _
  | succ n ih =>
    rw [sb]
    split
    · exact ih
    · rename_i c hc
      have hlt := (List.getElem?_eq_some_iff.1 hc).1
      split
      · simp only; omega
      · split
        · simp only; omega
        · simp only; omega

end Go.Proofs.Ytnpkambjlfkhgaa
