/- Contracts: coefficients, surfaces, hardnesses, on both sides. Condition: the list is read. -/
import Derived.Test.YtcjddnkebdjhoabTx
import Derived.Test.YtcjddnkebdjhoabTr
namespace Go.Proofs.Ytcjddnkebdjhoab
open Go.RowKit Ieee










end Go.Proofs.Ytcjddnkebdjhoab
