/- Contracts: one number of a convolution, the product of which is told. Condition: the lists are read. -/
import Derived.Test.YthgooahifbdaaaaTr
namespace Go.Proofs.Ythgooahifbdaaaa
open Go.RowKit Ieee

end Go.Proofs.Ythgooahifbdaaaa
