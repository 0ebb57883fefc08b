import Derived.Test.YtdgkpkdinfklaabGRPA
import Derived.Test.YtdgkpkdinfklaabGH
import Derived.Test.YtdgkpkdinfklaabGU
import Derived.Test.YtdgkpkdinfklaabGSP
import Derived.Test.YtdgkpkdinfklaabGKQ
import Derived.Test.YtdgkpkdinfklaabXMade2
import Derived.Test.YtdgkpkdinfklaabGMD
import Derived.Lib.AppendStr
namespace Go.Proofs.Ytdgkpkdinfklaab
open Go.RowKit

theorem piece_data (s : ByteArray) (k z : Nat) : (s.extract k (k + z)).data.toList = (s.data.toList.drop k).take z := by
  rw [Lib.extract_data, show k + z - k = z by omega]

end Go.Proofs.Ytdgkpkdinfklaab
