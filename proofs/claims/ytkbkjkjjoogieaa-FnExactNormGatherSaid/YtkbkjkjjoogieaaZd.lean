/- Contracts: all traces of a gather become others, the program. Condition: the gather is read. -/
import Derived.Test.YtkbkjkjjoogieaaZc
import Derived.Test.YtkbkjkjjoogieaaYe
namespace Go.Proofs.Ytkbkjkjjoogieaa
open Go.RowKit Ieee

end Go.Proofs.Ytkbkjkjjoogieaa
