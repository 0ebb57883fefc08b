import Derived.Test.YtdgkpkdinfklaabGI
import Derived.Test.YtdgkpkdinfklaabGA
import Derived.Test.YtdgkpkdinfklaabGE
import Derived.Test.YtdgkpkdinfklaabGL
import Derived.Laws.BytesArg
import Derived.Test.YtdgkpkdinfklaabGK
namespace Go.Proofs.Ytdgkpkdinfklaab
theorem splitBar_count (p : List UInt8) : (splitBar p).length = (p.filter (· == 124)).length + 1 := by
 induction p with
 | nil => rfl
 | cons c s ih =>
  rw [splitBar]
  by_cases hc : c = 124
  ·rw [if_pos hc, List.length_cons, ih]
   simp [hc]
  ·rw [if_neg hc]
   have hb : (c == 124) = false := by simpa using hc
   rw [List.filter_cons, hb]
   cases hs : splitBar s with
   | nil => rw [hs] at ih; simp at ih
   | cons h t => rw [hs] at ih; simpa using ih
end Go.Proofs.Ytdgkpkdinfklaab
