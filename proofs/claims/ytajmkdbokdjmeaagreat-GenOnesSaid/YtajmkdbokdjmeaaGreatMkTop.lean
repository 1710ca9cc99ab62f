/- What the laws of gen stand on. -/
import Derived.Test.YtajmkdbokdjmeaaGreatMk18
namespace Go.Proofs.YtajmkdbokdjmeaaGreat
open Go.RowKit

end Go.Proofs.YtajmkdbokdjmeaaGreat
