/- What the law RunsApart goes through. -/
import Derived.Test.YtdpkmlkckhhcgaaRzE
import Derived.Test.YtdpkmlkckhhcgaaRzG
namespace Go.Proofs.Ytdpkmlkckhhcgaa
open Go.RowKit
set_option linter.unusedVariables false

theorem runsApart_any (nn : Nat) (a : Option Addr) (cap L : Nat) (kd xx kk : Nat → Int) (am : Option Addr) (capm LM : Nat) (kdm xxm kkm : Nat → Int) (w : World) (hn : nn < 65536) (hC : IsC w a L kd xx kk) (hl : L ≤ maxLen) (hD : IsC w am LM kdm xxm kkm) (hlm : LM ≤ maxLen) :
    Calls Try.prog 7 #[.int .u16 (nn : Nat), .slice a L cap, .slice am LM capm] w fun e w' => e = .returned (.bool true) ∧ Below w.heap.size w w' := by
  rcases Nat.lt_or_ge 100 LM with h | h
  · exact runsApart_A nn a cap L kd xx kk am capm LM kdm xxm kkm w hn hC hl hD hlm h
  · exact runsApart_B nn a cap L kd xx kk am capm LM kdm xxm kkm w hn hC hl hD hlm h
end Go.Proofs.Ytdpkmlkckhhcgaa
