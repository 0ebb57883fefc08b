import Derived.Test.YtdgkpkdinfklaaaGreatGI
import Derived.Test.YtdgkpkdinfklaaaGreatGA
import Derived.Test.YtdgkpkdinfklaaaGreatGE
import Derived.Test.YtdgkpkdinfklaaaGreatGL
import Derived.Laws.BytesArg
import Derived.Test.YtdgkpkdinfklaaaGreatGK
namespace Go.Proofs.YtdgkpkdinfklaaaGreat

/-- How many threads: by the bars. -/
theorem splitBar_count (p : List UInt8) : (splitBar p).length = (p.filter (· == 124)).length + 1 := by
  induction p with
  | nil => rfl
  | cons c s ih =>
    rw [splitBar]
    by_cases hc : c = 124
    · rw [if_pos hc, List.length_cons, ih]
      simp [hc]
    · rw [if_neg hc]
      have hb : (c == 124) = false := by simpa using hc
      rw [List.filter_cons, hb]
      cases hs : splitBar s with
      | nil => rw [hs] at ih; simp at ih
      | cons h t => rw [hs] at ih; simpa using ih

end Go.Proofs.YtdgkpkdinfklaaaGreat

namespace Go.Proofs.YtdgkpkdinfklaaaGreat

/-- The reader, piece by piece. -/
def itT (p : List UInt8) : Nat → RT
  | 0 => RT.start
  | n + 1 => if (itT p n).pl < p.length ∧ ((itT p n).piece p).2 = true then ((itT p n).piece p).1 else itT p n

theorem ReachT.it {p : List UInt8} {r : RT} (h : ReachT p r) : ∃ n, itT p n = r := by
  induction h with
  | start => exact ⟨0, rfl⟩
  | step h hl he ih =>
    obtain ⟨n, hn⟩ := ih
    refine ⟨n + 1, ?_⟩
    rw [itT, hn, if_pos ⟨hl, by rw [he]⟩, he]

theorem itT_end {p : List UInt8} {n : Nat} (h : (itT p n).pl = p.length) : ∀ m, n ≤ m → itT p m = itT p n := by
  intro m hm
  induction m with
  | zero => have : n = 0 := by omega
            subst this; rfl
  | succ m ih =>
    by_cases he : n = m + 1
    · subst he; rfl
    · have hi := ih (by omega)
      rw [itT, hi, if_neg (by omega)]

theorem StepsOf.unique {p : List UInt8} {F G : List ST} (h : StepsOf p F) (k : StepsOf p G) : F = G := by
  obtain ⟨r, hr, he, _, rfl⟩ := h
  obtain ⟨q, hq, hf, _, rfl⟩ := k
  obtain ⟨n, hn⟩ := hr.it
  obtain ⟨m, hm⟩ := hq.it
  have a := itT_end (p := p) (n := n) (by rw [hn]; exact he) (max n m) (by omega)
  have b := itT_end (p := p) (n := m) (by rw [hm]; exact hf) (max n m) (by omega)
  rw [a, hn, hm] at b
  rw [b]

end Go.Proofs.YtdgkpkdinfklaaaGreat
