/- Contracts: coefficients, surfaces, hardnesses, on both sides. Condition: the list is read. -/
import Derived.Test.YtfmhdnhaaohdjaaTx
import Derived.Test.YtfmhdnhaaohdjaaTr
namespace Go.Proofs.Ytfmhdnhaaohdjaa
open Go.RowKit Ieee










end Go.Proofs.Ytfmhdnhaaohdjaa
