import Derived.Test.YtdgkpkdinfklaaaGF
import Derived.Test.YtdgkpkdinfklaaaGG
import Derived.Deep.LoopGhost
namespace Go.Proofs.Ytdgkpkdinfklaaa
inductive TR (p : List UInt8) : TS → Prop
 | start : TR p ⟨0, [], 1, []⟩
 | step {t : TS} : TR p t → t.i < p.length → TR p (tstep p t)
inductive TodoOk : List UInt8 → Prop
 | nil : TodoOk []
 | lit {e : UInt8} {r : List UInt8} : e = 93 ∨ e = 125 ∨ e = 123 → TodoOk r → TodoOk (e :: r)
 | b {r : List UInt8} : TodoOk r → r.head? ≠ some 66 → TodoOk (66 :: r)
def lits (l : List UInt8) : Nat := (l.filter (· != 66)).length
def shuts (l : List UInt8) : Nat := (l.filter (· == 93)).length
structure Gen (t : Nat) (text todo opn : List UInt8) : Prop where
 t1 : 1 ≤ t
 t4 : t ≤ 4
 ok : TodoOk todo
 form : ∃ F, fw text text.length = some (F ++ List.replicate (4 - t) 109) ∧ ((F = todo ∧ todo ≠ []) ∨ (F = 66 :: todo ∧ todo.head? ≠ some 66))
 last : todo = [] ∨ todo.getLast? = some 66
 toks : ∃ th mks, TR text ⟨text.length, opn, th, mks⟩ ∧ MksOk mks ∧ mks.find? nestB = none
 shut : opn.length = shuts todo
 small : 2 * (text.length + lits todo) ≤ 5 * text.length + (if todo.head? = some 123 then 5 else 0)
 bound : text.length + lits todo ≤ 180 + t
end Go.Proofs.Ytdgkpkdinfklaaa

namespace Go.Proofs.Ytdgkpkdinfklaaa
open Go.RowKit
def pickI (c n : Int) : Int := (if c < 0 then -(c + 1) else c) % n
theorem pickI_bd (c n : Int) (hn : 0 < n) : 0 ≤ pickI c n ∧ pickI c n < n := by
 unfold pickI
 exact ⟨Int.emod_nonneg _ (by omega), Int.emod_lt_of_pos _ hn⟩
set_option maxHeartbeats 400000 in
theorem pick_any (c n : Int) (w : World) (h0 : -9223372036854775807 ≤ c + 1) (h1 : c ≤ 9223372036854775806 + 1) (hn : 0 < n) (hn1 : n ≤ 1000) :
  Calls Try.prog 14 #[.int .i64 c, .int .i64 n] w fun e w' => e = .returned (.int .i64 (pickI c n)) ∧ w' = w := by
 by_cases hc : c < 0
 ·have HP : Hid (pickI c n = (-(c + 1)) % n) := by show pickI c n = _; rw [pickI, if_pos hc]
  go_enter Try.func14, Try.ntmps14
  go_wp2
  go_ret
  refine ⟨?_, rfl⟩
  rw [HP.out]
  have e1 : -((c + 1).tmod n) = (-(c + 1)) % n := by rw [← Int.neg_tmod, Int.tmod_eq_emod_of_nonneg (by omega)]
  rw [← e1]; rfl
 ·have HP : Hid (pickI c n = c % n) := by show pickI c n = _; rw [pickI, if_neg hc]
  go_enter Try.func14, Try.ntmps14
  go_wp2
  go_ret
  refine ⟨?_, rfl⟩
  rw [HP.out]; rfl
def IsInts (w : World) (mb : Nat) (la : Option Addr) (ln : Nat) : Prop :=
 ln = 0 ∨ ∃ b off, la = some ⟨b, off, none⟩ ∧ b < mb ∧ ∀ j, j < ln → ∃ z : Int, w.cell? ⟨b, off + j, none⟩ = some (.int .i64 z) ∧ -9223372036854775808 ≤ z ∧ z ≤ 9223372036854775807
def cntGP (l : List UInt8) : Nat := (l.filter fun c => c == 103 || c == 112).length
def TX (lk text : ByteArray) (ac : Nat) : Prop := cntGP text.data.toList ≤ ac ∧ (60 : UInt8) ∉ text.data.toList ∧ (lk = ⟨#[65, 66, 67]⟩ → (68 : UInt8) ∉ text.data.toList)
structure MM (w : World) (mb : Nat) (la : Option Addr) (ln lc : Nat) (lk : ByteArray) (at_ : Nat) (text opn : ByteArray) (ac : Nat) : Prop where
 lt : mb < w.heap.size
 c0 : w.cell? ⟨mb, 0, none⟩ = some (.slice la ln lc)
 c1 : w.cell? ⟨mb, 1, none⟩ = some (.int .i64 at_)
 c2 : w.cell? ⟨mb, 2, none⟩ = some (.string text)
 c3 : w.cell? ⟨mb, 3, none⟩ = some (.string opn)
 c4 : w.cell? ⟨mb, 4, none⟩ = some (.string lk)
 c5 : w.cell? ⟨mb, 5, none⟩ = some (.int .i64 ac)
 fz : ∀ i, w.frozen? ⟨mb, i, none⟩ = false
 il : IsInts w mb la ln
 len : ln ≤ maxLen
 le : at_ ≤ ln
 ts : text.size ≤ 240
 os : opn.size ≤ 240
 ac10 : ac ≤ 10
 lo : lk = ⟨#[65, 66, 67, 68]⟩ ∨ lk = ⟨#[65, 66, 67]⟩
 tx : TX lk text ac
end Go.Proofs.Ytdgkpkdinfklaaa

namespace Go.Proofs.Ytdgkpkdinfklaaa
open Go.RowKit
def Between (w wr : World) (mb : Nat) (la : Option Addr) (ln lc : Nat) (lk : ByteArray) (k : Nat) : Prop :=
 ∃ text opn at_ ac, MM wr mb la ln lc lk at_ text opn ac ∧ ((k = 0 ∧ text = ⟨#[]⟩ ∧ opn = ⟨#[]⟩) ∨ (1 ≤ k ∧ Gen k text.data.toList [] opn.data.toList)) ∧ Below w.heap.size w wr
end Go.Proofs.Ytdgkpkdinfklaaa
