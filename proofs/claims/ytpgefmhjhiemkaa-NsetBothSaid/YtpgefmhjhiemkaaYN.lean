/- What nset's functions do: all contracts. -/
import Derived.Test.YtpgefmhjhiemkaaJi
import Derived.Test.YtpgefmhjhiemkaaZ3
namespace Go.Proofs.Ytpgefmhjhiemkaa
open Go.RowKit

end Go.Proofs.Ytpgefmhjhiemkaa
