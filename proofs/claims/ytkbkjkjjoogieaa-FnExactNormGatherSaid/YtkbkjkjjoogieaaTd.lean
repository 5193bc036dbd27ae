/- Contracts: traces that come later, on both sides. Condition: the list is read. -/
import Derived.Test.YtkbkjkjjoogieaaTn
namespace Go.Proofs.Ytkbkjkjjoogieaa
open Go.RowKit Ieee




end Go.Proofs.Ytkbkjkjjoogieaa
