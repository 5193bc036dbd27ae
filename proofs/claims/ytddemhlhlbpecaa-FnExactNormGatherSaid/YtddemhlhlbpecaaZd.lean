/- Contracts: all traces of a gather become others, the program. Condition: the gather is read. -/
import Derived.Test.YtddemhlhlbpecaaZc
import Derived.Test.YtddemhlhlbpecaaYe
namespace Go.Proofs.Ytddemhlhlbpecaa
open Go.RowKit Ieee

end Go.Proofs.Ytddemhlhlbpecaa
