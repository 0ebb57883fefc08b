import Derived.Test.YtdgkpkdinfklaabGRPA
import Derived.Test.YtdgkpkdinfklaabGH
import Derived.Test.YtdgkpkdinfklaabGU
import Derived.Test.YtdgkpkdinfklaabGSP
namespace Go.Proofs.Ytdgkpkdinfklaab
open Go.RowKit
theorem cut_last (now : ByteArray) (_h : 0 < now.size) : (now.extract 0 (now.size - 1)).data.toList = now.data.toList.dropLast := by
 rw [Lib.extract_data, List.drop_zero, List.dropLast_eq_take]
 simp
theorem cat_one (now s : ByteArray) (k : Nat) (h : k + 1 < s.size) : (now ++ s.extract (k + 1) (k + 2)).data.toList = now.data.toList ++ [s[k + 1]] := by
 rw [cat_data, Lib.extract_data]
 rw [List.drop_eq_getElem_cons (by simpa using h), show k + 2 - (k + 1) = 1 by omega]
 rfl
end Go.Proofs.Ytdgkpkdinfklaab
