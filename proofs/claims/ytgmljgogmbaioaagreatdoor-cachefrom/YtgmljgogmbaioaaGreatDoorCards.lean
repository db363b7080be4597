/-
  DERIVED. GIVEN WITH THE SEED: THE CARDS: each row of YtgmljgogmbaioaaGreatDoorRows.lean that lists a variable, with what it lists TIED to the program's text (the seventh form; the later family's looks); each row that meets fmt, with fmt's text TOLD by the authors' own Lean function (tested against real Go, not proved from fmt's source: count such statements apart). THE CARD IS WHAT COUNTS. Prove the row's statement (the work); the ties are given (YtgmljgogmbaioaaGreatDoorTie.lean); close each card by the builder's one call (the guide's Derived/Test/ToyasCard.lean, 'card_holds'). Laid BY PROGRAM, IN A SANDBOX (cutbox-door.mjs). By AI agents, Wed Nov 11 2026. No macro, syntax, notation, axiom, sorry.
-/
import Derived.Test.YtgmljgogmbaioaaGreatDoorRows
import GoSem.ClaimSeven
namespace Go.Proofs.YtgmljgogmbaioaaGreatDoor
namespace Rows

/-- THE TIED CARD OF 'hayloftlaw11.CachePlays'. -/
def cachePlaysCard : Claim7 := { stood := { row := cachePlaysRow, standIns := [], harness := (true, "89a664c4067044d61f95fd5aa648c7a2151acc9c6797e7e4c2cebc1972ea50f8"), looks := false }, kinds := [], alts := [], laidByText := true, laidKinds := [.data, .data], laidTests := true, laidLooks := .later }
def CachePlaysCardSaid : Prop := Claim7.holds Tryz.pinned (.plain (OpenSpec.ofChange cachePlaysSpec)) cachePlaysCard

/-- THE TIED CARD OF 'hayloftlaw11.CacheFrom'. -/
def cacheFromCard : Claim7 := { stood := { row := cacheFromRow, standIns := [], harness := (true, "89a664c4067044d61f95fd5aa648c7a2151acc9c6797e7e4c2cebc1972ea50f8"), looks := false }, kinds := [], alts := [], laidByText := true, laidKinds := [.data, .data], laidTests := true, laidLooks := .later }
def CacheFromCardSaid : Prop := Claim7.holds Tryz.pinned (.plain (OpenSpec.ofChange cacheFromSpec)) cacheFromCard

/-- THE TIED CARD OF 'hayloftlaw11.CacheApart'. -/
def cacheApartCard : Claim7 := { stood := { row := cacheApartRow, standIns := [], harness := (true, "89a664c4067044d61f95fd5aa648c7a2151acc9c6797e7e4c2cebc1972ea50f8"), looks := false }, kinds := [], alts := [], laidByText := true, laidKinds := [.data, .data], laidTests := true, laidLooks := .later }
def CacheApartCardSaid : Prop := Claim7.holds Tryz.pinned (.plain (OpenSpec.ofChange cacheApartSpec)) cacheApartCard

/-- THE TIED CARD OF 'hayloftlaw11.CacheFlushes'. -/
def cacheFlushesCard : Claim7 := { stood := { row := cacheFlushesRow, standIns := [], harness := (true, "89a664c4067044d61f95fd5aa648c7a2151acc9c6797e7e4c2cebc1972ea50f8"), looks := false }, kinds := [], alts := [], laidByText := true, laidKinds := [.data, .data], laidTests := true, laidLooks := .later }
def CacheFlushesCardSaid : Prop := Claim7.holds Tryz.pinned (.plain (OpenSpec.ofChange cacheFlushesSpec)) cacheFlushesCard

/-- THE TIED CARD OF 'hayloftlaw11.CacheBack'. -/
def cacheBackCard : Claim7 := { stood := { row := cacheBackRow, standIns := [], harness := (true, "89a664c4067044d61f95fd5aa648c7a2151acc9c6797e7e4c2cebc1972ea50f8"), looks := false }, kinds := [], alts := [], laidByText := true, laidKinds := [.data, .data], laidTests := true, laidLooks := .later }
def CacheBackCardSaid : Prop := Claim7.holds Tryz.pinned (.plain (OpenSpec.ofChange cacheBackSpec)) cacheBackCard

/-- THE TIED CARD OF 'hayloftlaw11.CacheRefuses'. -/
def cacheRefusesCard : Claim7 := { stood := { row := cacheRefusesRow, standIns := [], harness := (true, "89a664c4067044d61f95fd5aa648c7a2151acc9c6797e7e4c2cebc1972ea50f8"), looks := false }, kinds := [], alts := [], laidByText := true, laidKinds := [.data, .data], laidTests := true, laidLooks := .later }
def CacheRefusesCardSaid : Prop := Claim7.holds Tryz.pinned (.plain (OpenSpec.ofChange cacheRefusesSpec)) cacheRefusesCard

/-- THE SECOND FORM's CARD OF 'hayloftlaw11.CachePlays'. -/
def cachePlaysUptoCard : Claim7 := { stood := { row := cachePlaysUptoRow, standIns := [], harness := (true, "89a664c4067044d61f95fd5aa648c7a2151acc9c6797e7e4c2cebc1972ea50f8"), looks := false }, kinds := [], alts := [], laidByText := true, laidKinds := [.data, .data], laidTests := true, laidLooks := .later }
def CachePlaysUptoCardSaid : Prop := Claim7.holds Tryz.pinned (.plain (OpenSpec.upto cachePlaysSpec)) cachePlaysUptoCard

/-- THE SECOND FORM's CARD OF 'hayloftlaw11.CacheFrom'. -/
def cacheFromUptoCard : Claim7 := { stood := { row := cacheFromUptoRow, standIns := [], harness := (true, "89a664c4067044d61f95fd5aa648c7a2151acc9c6797e7e4c2cebc1972ea50f8"), looks := false }, kinds := [], alts := [], laidByText := true, laidKinds := [.data, .data], laidTests := true, laidLooks := .later }
def CacheFromUptoCardSaid : Prop := Claim7.holds Tryz.pinned (.plain (OpenSpec.upto cacheFromSpec)) cacheFromUptoCard

/-- THE SECOND FORM's CARD OF 'hayloftlaw11.CacheApart'. -/
def cacheApartUptoCard : Claim7 := { stood := { row := cacheApartUptoRow, standIns := [], harness := (true, "89a664c4067044d61f95fd5aa648c7a2151acc9c6797e7e4c2cebc1972ea50f8"), looks := false }, kinds := [], alts := [], laidByText := true, laidKinds := [.data, .data], laidTests := true, laidLooks := .later }
def CacheApartUptoCardSaid : Prop := Claim7.holds Tryz.pinned (.plain (OpenSpec.upto cacheApartSpec)) cacheApartUptoCard

/-- THE SECOND FORM's CARD OF 'hayloftlaw11.CacheFlushes'. -/
def cacheFlushesUptoCard : Claim7 := { stood := { row := cacheFlushesUptoRow, standIns := [], harness := (true, "89a664c4067044d61f95fd5aa648c7a2151acc9c6797e7e4c2cebc1972ea50f8"), looks := false }, kinds := [], alts := [], laidByText := true, laidKinds := [.data, .data], laidTests := true, laidLooks := .later }
def CacheFlushesUptoCardSaid : Prop := Claim7.holds Tryz.pinned (.plain (OpenSpec.upto cacheFlushesSpec)) cacheFlushesUptoCard

/-- THE SECOND FORM's CARD OF 'hayloftlaw11.CacheBack'. -/
def cacheBackUptoCard : Claim7 := { stood := { row := cacheBackUptoRow, standIns := [], harness := (true, "89a664c4067044d61f95fd5aa648c7a2151acc9c6797e7e4c2cebc1972ea50f8"), looks := false }, kinds := [], alts := [], laidByText := true, laidKinds := [.data, .data], laidTests := true, laidLooks := .later }
def CacheBackUptoCardSaid : Prop := Claim7.holds Tryz.pinned (.plain (OpenSpec.upto cacheBackSpec)) cacheBackUptoCard

/-- THE SECOND FORM's CARD OF 'hayloftlaw11.CacheRefuses'. -/
def cacheRefusesUptoCard : Claim7 := { stood := { row := cacheRefusesUptoRow, standIns := [], harness := (true, "89a664c4067044d61f95fd5aa648c7a2151acc9c6797e7e4c2cebc1972ea50f8"), looks := false }, kinds := [], alts := [], laidByText := true, laidKinds := [.data, .data], laidTests := true, laidLooks := .later }
def CacheRefusesUptoCardSaid : Prop := Claim7.holds Tryz.pinned (.plain (OpenSpec.upto cacheRefusesSpec)) cacheRefusesUptoCard
end Rows
end Go.Proofs.YtgmljgogmbaioaaGreatDoor
