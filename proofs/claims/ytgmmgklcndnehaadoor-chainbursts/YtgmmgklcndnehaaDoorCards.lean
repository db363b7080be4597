/-
  DERIVED. GIVEN WITH THE SEED: THE CARDS: each row of YtgmmgklcndnehaaDoorRows.lean that lists a variable, with what it lists TIED to the program's text (the seventh form; the later family's looks); each row that meets fmt, with fmt's text TOLD by the authors' own Lean function (tested against real Go, not proved from fmt's source: count such statements apart). THE CARD IS WHAT COUNTS. Prove the row's statement (the work); the ties are given (YtgmmgklcndnehaaDoorTie.lean); close each card by the builder's one call (the guide's Derived/Test/ToyasCard.lean, 'card_holds'). Laid BY PROGRAM, IN A SANDBOX (cutbox-door.mjs). By AI agents, Wed Nov 11 2026. No macro, syntax, notation, axiom, sorry.
-/
import Derived.Test.YtgmmgklcndnehaaDoorRows
import GoSem.ClaimSeven
namespace Go.Proofs.YtgmmgklcndnehaaDoor
namespace Rows

/-- THE TIED CARD OF 'hayloftlaw19.ChainLays'. -/
def chainLaysCard : Claim7 := { stood := { row := chainLaysRow, standIns := [], harness := (true, "e8c1bcb5b4100d376a6e5e696acd8fafb5f1f216e42313607e4b8b3a5ca9b290"), looks := true }, kinds := [], alts := [], laidByText := true, laidKinds := [.handle], laidTests := true, laidLooks := .later }
def ChainLaysCardSaid : Prop := Claim7.holds Tryd.pinned (.plain (OpenSpec.ofChange chainLaysSpec)) chainLaysCard

/-- THE TIED CARD OF 'hayloftlaw19.ChainReads'. -/
def chainReadsCard : Claim7 := { stood := { row := chainReadsRow, standIns := [], harness := (true, "e8c1bcb5b4100d376a6e5e696acd8fafb5f1f216e42313607e4b8b3a5ca9b290"), looks := true }, kinds := [], alts := [], laidByText := true, laidKinds := [.handle], laidTests := true, laidLooks := .later }
def ChainReadsCardSaid : Prop := Claim7.holds Tryd.pinned (.plain (OpenSpec.ofChange chainReadsSpec)) chainReadsCard

/-- THE TIED CARD OF 'hayloftlaw19.ChainBack'. -/
def chainBackCard : Claim7 := { stood := { row := chainBackRow, standIns := [], harness := (true, "e8c1bcb5b4100d376a6e5e696acd8fafb5f1f216e42313607e4b8b3a5ca9b290"), looks := true }, kinds := [], alts := [], laidByText := true, laidKinds := [.handle], laidTests := true, laidLooks := .later }
def ChainBackCardSaid : Prop := Claim7.holds Tryd.pinned (.plain (OpenSpec.ofChange chainBackSpec)) chainBackCard

/-- THE TIED CARD OF 'hayloftlaw19.ChainBursts'. -/
def chainBurstsCard : Claim7 := { stood := { row := chainBurstsRow, standIns := [], harness := (true, "e8c1bcb5b4100d376a6e5e696acd8fafb5f1f216e42313607e4b8b3a5ca9b290"), looks := true }, kinds := [], alts := [], laidByText := true, laidKinds := [.handle], laidTests := true, laidLooks := .later }
def ChainBurstsCardSaid : Prop := Claim7.holds Tryd.pinned (.plain (OpenSpec.ofChange chainBurstsSpec)) chainBurstsCard

/-- THE TIED CARD OF 'hayloftlaw19.ChainNone'. -/
def chainNoneCard : Claim7 := { stood := { row := chainNoneRow, standIns := [], harness := (true, "e8c1bcb5b4100d376a6e5e696acd8fafb5f1f216e42313607e4b8b3a5ca9b290"), looks := true }, kinds := [], alts := [], laidByText := true, laidKinds := [.handle], laidTests := true, laidLooks := .later }
def ChainNoneCardSaid : Prop := Claim7.holds Tryd.pinned (.plain (OpenSpec.ofChange chainNoneSpec)) chainNoneCard

/-- THE SECOND FORM's CARD OF 'hayloftlaw19.ChainLays'. -/
def chainLaysUptoCard : Claim7 := { stood := { row := chainLaysUptoRow, standIns := [], harness := (true, "e8c1bcb5b4100d376a6e5e696acd8fafb5f1f216e42313607e4b8b3a5ca9b290"), looks := true }, kinds := [], alts := [], laidByText := true, laidKinds := [.handle], laidTests := true, laidLooks := .later }
def ChainLaysUptoCardSaid : Prop := Claim7.holds Tryd.pinned (.plain (OpenSpec.upto chainLaysSpec)) chainLaysUptoCard

/-- THE SECOND FORM's CARD OF 'hayloftlaw19.ChainReads'. -/
def chainReadsUptoCard : Claim7 := { stood := { row := chainReadsUptoRow, standIns := [], harness := (true, "e8c1bcb5b4100d376a6e5e696acd8fafb5f1f216e42313607e4b8b3a5ca9b290"), looks := true }, kinds := [], alts := [], laidByText := true, laidKinds := [.handle], laidTests := true, laidLooks := .later }
def ChainReadsUptoCardSaid : Prop := Claim7.holds Tryd.pinned (.plain (OpenSpec.upto chainReadsSpec)) chainReadsUptoCard

/-- THE SECOND FORM's CARD OF 'hayloftlaw19.ChainBack'. -/
def chainBackUptoCard : Claim7 := { stood := { row := chainBackUptoRow, standIns := [], harness := (true, "e8c1bcb5b4100d376a6e5e696acd8fafb5f1f216e42313607e4b8b3a5ca9b290"), looks := true }, kinds := [], alts := [], laidByText := true, laidKinds := [.handle], laidTests := true, laidLooks := .later }
def ChainBackUptoCardSaid : Prop := Claim7.holds Tryd.pinned (.plain (OpenSpec.upto chainBackSpec)) chainBackUptoCard

/-- THE SECOND FORM's CARD OF 'hayloftlaw19.ChainBursts'. -/
def chainBurstsUptoCard : Claim7 := { stood := { row := chainBurstsUptoRow, standIns := [], harness := (true, "e8c1bcb5b4100d376a6e5e696acd8fafb5f1f216e42313607e4b8b3a5ca9b290"), looks := true }, kinds := [], alts := [], laidByText := true, laidKinds := [.handle], laidTests := true, laidLooks := .later }
def ChainBurstsUptoCardSaid : Prop := Claim7.holds Tryd.pinned (.plain (OpenSpec.upto chainBurstsSpec)) chainBurstsUptoCard

/-- THE SECOND FORM's CARD OF 'hayloftlaw19.ChainNone'. -/
def chainNoneUptoCard : Claim7 := { stood := { row := chainNoneUptoRow, standIns := [], harness := (true, "e8c1bcb5b4100d376a6e5e696acd8fafb5f1f216e42313607e4b8b3a5ca9b290"), looks := true }, kinds := [], alts := [], laidByText := true, laidKinds := [.handle], laidTests := true, laidLooks := .later }
def ChainNoneUptoCardSaid : Prop := Claim7.holds Tryd.pinned (.plain (OpenSpec.upto chainNoneSpec)) chainNoneUptoCard
end Rows
end Go.Proofs.YtgmmgklcndnehaaDoor
