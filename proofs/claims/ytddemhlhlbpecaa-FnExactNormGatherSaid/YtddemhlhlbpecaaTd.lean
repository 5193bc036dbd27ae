/- Contracts: traces that come later, on both sides. Condition: the list is read. -/
import Derived.Test.YtddemhlhlbpecaaTn
namespace Go.Proofs.Ytddemhlhlbpecaa
open Go.RowKit Ieee




end Go.Proofs.Ytddemhlhlbpecaa
