/- Contracts: coefficients, surfaces, hardnesses, on both sides. Condition: the list is read. -/
import Derived.Test.YtcjddnkebdjhoaaTx
import Derived.Test.YtcjddnkebdjhoaaTr
namespace Go.Proofs.Ytcjddnkebdjhoaa
open Go.RowKit Ieee










end Go.Proofs.Ytcjddnkebdjhoaa
