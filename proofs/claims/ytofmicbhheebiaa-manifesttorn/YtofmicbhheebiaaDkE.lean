/- What Read answers. -/
import Derived.Test.YtofmicbhheebiaaDkD
namespace Go.Proofs.Ytofmicbhheebiaa
open Go.RowKit Go.Maps
set_option linter.unusedVariables false
set_option maxRecDepth 4000

end Go.Proofs.Ytofmicbhheebiaa
