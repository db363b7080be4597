/- Plain mathematics of layer 13: spans slid together. -/
import Derived.Test.YtgdjlopnhecmjaaGreatDoorGzAA
namespace Go.Proofs.YtgdjlopnhecmjaaGreatDoor
set_option linter.unusedVariables false
set_option maxRecDepth 4000

/-- A span that is told. -/
structure Td where
  (p c s : Int) (l : List Int)
end Go.Proofs.YtgdjlopnhecmjaaGreatDoor

/- Plain mathematics of layer 13: the j-th live slot never lies ahead of the j-th slot; what is taken behind it. -/
namespace Go.Proofs.YtgdjlopnhecmjaaGreatDoor
set_option linter.unusedVariables false
set_option maxRecDepth 4000

end Go.Proofs.YtgdjlopnhecmjaaGreatDoor
