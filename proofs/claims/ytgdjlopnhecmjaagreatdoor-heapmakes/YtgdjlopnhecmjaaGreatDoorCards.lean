/-
  DERIVED. GIVEN WITH THE SEED: THE CARDS: each row of YtgdjlopnhecmjaaGreatDoorRows.lean that lists a variable, with what it lists TIED to the program's text (the seventh form; the later family's looks); each row that meets fmt, with fmt's text TOLD by the authors' own Lean function (tested against real Go, not proved from fmt's source: count such statements apart). THE CARD IS WHAT COUNTS. Prove the row's statement (the work); the ties are given (YtgdjlopnhecmjaaGreatDoorTie.lean); close each card by the builder's one call (the guide's Derived/Test/ToyasCard.lean, 'card_holds'). Laid BY PROGRAM, IN A SANDBOX (cutbox-door.mjs). By AI agents, Wed Nov 11 2026. No macro, syntax, notation, axiom, sorry.
-/
import Derived.Test.YtgdjlopnhecmjaaGreatDoorRows
import GoSem.ClaimSeven
namespace Go.Proofs.YtgdjlopnhecmjaaGreatDoor
namespace Rows

/-- THE TIED CARD OF 'hayloftlaw15.HeapModel'. -/
def heapModelCard : Claim7 := { stood := { row := heapModelRow, standIns := [], harness := (true, "bde1a0931cc69ae60eba8a45e2de168fb592191e92df8407d01d5ebea65e3046"), looks := false }, kinds := [], alts := [], laidByText := true, laidKinds := [.data, .data], laidTests := true, laidLooks := .later }
def HeapModelCardSaid : Prop := Claim7.holds Tryz.pinned (.plain (OpenSpec.ofChange heapModelSpec)) heapModelCard

/-- THE TIED CARD OF 'hayloftlaw15.HeapSound'. -/
def heapSoundCard : Claim7 := { stood := { row := heapSoundRow, standIns := [], harness := (true, "bde1a0931cc69ae60eba8a45e2de168fb592191e92df8407d01d5ebea65e3046"), looks := false }, kinds := [], alts := [], laidByText := true, laidKinds := [.data, .data], laidTests := true, laidLooks := .later }
def HeapSoundCardSaid : Prop := Claim7.holds Tryz.pinned (.plain (OpenSpec.ofChange heapSoundSpec)) heapSoundCard

/-- THE TIED CARD OF 'hayloftlaw15.HeapTight'. -/
def heapTightCard : Claim7 := { stood := { row := heapTightRow, standIns := [], harness := (true, "bde1a0931cc69ae60eba8a45e2de168fb592191e92df8407d01d5ebea65e3046"), looks := false }, kinds := [], alts := [], laidByText := true, laidKinds := [.data, .data], laidTests := true, laidLooks := .later }
def HeapTightCardSaid : Prop := Claim7.holds Tryz.pinned (.plain (OpenSpec.ofChange heapTightSpec)) heapTightCard

/-- THE TIED CARD OF 'hayloftlaw15.HeapQuiet'. -/
def heapQuietCard : Claim7 := { stood := { row := heapQuietRow, standIns := [], harness := (true, "bde1a0931cc69ae60eba8a45e2de168fb592191e92df8407d01d5ebea65e3046"), looks := false }, kinds := [], alts := [], laidByText := true, laidKinds := [.data, .data], laidTests := true, laidLooks := .later }
def HeapQuietCardSaid : Prop := Claim7.holds Tryz.pinned (.plain (OpenSpec.ofChange heapQuietSpec)) heapQuietCard

/-- THE TIED CARD OF 'hayloftlaw15.HeapBases'. -/
def heapBasesCard : Claim7 := { stood := { row := heapBasesRow, standIns := [], harness := (true, "bde1a0931cc69ae60eba8a45e2de168fb592191e92df8407d01d5ebea65e3046"), looks := false }, kinds := [], alts := [], laidByText := true, laidKinds := [.data, .data], laidTests := true, laidLooks := .later }
def HeapBasesCardSaid : Prop := Claim7.holds Tryz.pinned (.plain (OpenSpec.ofChange heapBasesSpec)) heapBasesCard

/-- THE TIED CARD OF 'hayloftlaw15.HeapWorkers'. -/
def heapWorkersCard : Claim7 := { stood := { row := heapWorkersRow, standIns := [], harness := (true, "bde1a0931cc69ae60eba8a45e2de168fb592191e92df8407d01d5ebea65e3046"), looks := false }, kinds := [], alts := [], laidByText := true, laidKinds := [.data, .data], laidTests := true, laidLooks := .later }
def HeapWorkersCardSaid : Prop := Claim7.holds Tryz.pinned (.plain (OpenSpec.ofChange heapWorkersSpec)) heapWorkersCard

/-- THE TIED CARD OF 'hayloftlaw15.HeapFields'. -/
def heapFieldsCard : Claim7 := { stood := { row := heapFieldsRow, standIns := [], harness := (true, "bde1a0931cc69ae60eba8a45e2de168fb592191e92df8407d01d5ebea65e3046"), looks := false }, kinds := [], alts := [], laidByText := true, laidKinds := [.data, .data], laidTests := true, laidLooks := .later }
def HeapFieldsCardSaid : Prop := Claim7.holds Tryz.pinned (.plain (OpenSpec.ofChange heapFieldsSpec)) heapFieldsCard

/-- THE TIED CARD OF 'hayloftlaw15.HeapOf'. -/
def heapOfCard : Claim7 := { stood := { row := heapOfRow, standIns := [], harness := (true, "bde1a0931cc69ae60eba8a45e2de168fb592191e92df8407d01d5ebea65e3046"), looks := false }, kinds := [], alts := [], laidByText := true, laidKinds := [.data, .data], laidTests := true, laidLooks := .later }
def HeapOfCardSaid : Prop := Claim7.holds Tryz.pinned (.plain (OpenSpec.ofChange heapOfSpec)) heapOfCard

/-- THE TIED CARD OF 'hayloftlaw15.HeapMakes'. -/
def heapMakesCard : Claim7 := { stood := { row := heapMakesRow, standIns := [], harness := (true, "bde1a0931cc69ae60eba8a45e2de168fb592191e92df8407d01d5ebea65e3046"), looks := false }, kinds := [], alts := [], laidByText := true, laidKinds := [.data, .data], laidTests := true, laidLooks := .later }
def HeapMakesCardSaid : Prop := Claim7.holds Tryz.pinned (.plain (OpenSpec.ofChange heapMakesSpec)) heapMakesCard

/-- THE SECOND FORM's CARD OF 'hayloftlaw15.HeapModel'. -/
def heapModelUptoCard : Claim7 := { stood := { row := heapModelUptoRow, standIns := [], harness := (true, "bde1a0931cc69ae60eba8a45e2de168fb592191e92df8407d01d5ebea65e3046"), looks := false }, kinds := [], alts := [], laidByText := true, laidKinds := [.data, .data], laidTests := true, laidLooks := .later }
def HeapModelUptoCardSaid : Prop := Claim7.holds Tryz.pinned (.plain (OpenSpec.upto heapModelSpec)) heapModelUptoCard

/-- THE SECOND FORM's CARD OF 'hayloftlaw15.HeapSound'. -/
def heapSoundUptoCard : Claim7 := { stood := { row := heapSoundUptoRow, standIns := [], harness := (true, "bde1a0931cc69ae60eba8a45e2de168fb592191e92df8407d01d5ebea65e3046"), looks := false }, kinds := [], alts := [], laidByText := true, laidKinds := [.data, .data], laidTests := true, laidLooks := .later }
def HeapSoundUptoCardSaid : Prop := Claim7.holds Tryz.pinned (.plain (OpenSpec.upto heapSoundSpec)) heapSoundUptoCard

/-- THE SECOND FORM's CARD OF 'hayloftlaw15.HeapTight'. -/
def heapTightUptoCard : Claim7 := { stood := { row := heapTightUptoRow, standIns := [], harness := (true, "bde1a0931cc69ae60eba8a45e2de168fb592191e92df8407d01d5ebea65e3046"), looks := false }, kinds := [], alts := [], laidByText := true, laidKinds := [.data, .data], laidTests := true, laidLooks := .later }
def HeapTightUptoCardSaid : Prop := Claim7.holds Tryz.pinned (.plain (OpenSpec.upto heapTightSpec)) heapTightUptoCard

/-- THE SECOND FORM's CARD OF 'hayloftlaw15.HeapQuiet'. -/
def heapQuietUptoCard : Claim7 := { stood := { row := heapQuietUptoRow, standIns := [], harness := (true, "bde1a0931cc69ae60eba8a45e2de168fb592191e92df8407d01d5ebea65e3046"), looks := false }, kinds := [], alts := [], laidByText := true, laidKinds := [.data, .data], laidTests := true, laidLooks := .later }
def HeapQuietUptoCardSaid : Prop := Claim7.holds Tryz.pinned (.plain (OpenSpec.upto heapQuietSpec)) heapQuietUptoCard

/-- THE SECOND FORM's CARD OF 'hayloftlaw15.HeapBases'. -/
def heapBasesUptoCard : Claim7 := { stood := { row := heapBasesUptoRow, standIns := [], harness := (true, "bde1a0931cc69ae60eba8a45e2de168fb592191e92df8407d01d5ebea65e3046"), looks := false }, kinds := [], alts := [], laidByText := true, laidKinds := [.data, .data], laidTests := true, laidLooks := .later }
def HeapBasesUptoCardSaid : Prop := Claim7.holds Tryz.pinned (.plain (OpenSpec.upto heapBasesSpec)) heapBasesUptoCard

/-- THE SECOND FORM's CARD OF 'hayloftlaw15.HeapWorkers'. -/
def heapWorkersUptoCard : Claim7 := { stood := { row := heapWorkersUptoRow, standIns := [], harness := (true, "bde1a0931cc69ae60eba8a45e2de168fb592191e92df8407d01d5ebea65e3046"), looks := false }, kinds := [], alts := [], laidByText := true, laidKinds := [.data, .data], laidTests := true, laidLooks := .later }
def HeapWorkersUptoCardSaid : Prop := Claim7.holds Tryz.pinned (.plain (OpenSpec.upto heapWorkersSpec)) heapWorkersUptoCard

/-- THE SECOND FORM's CARD OF 'hayloftlaw15.HeapFields'. -/
def heapFieldsUptoCard : Claim7 := { stood := { row := heapFieldsUptoRow, standIns := [], harness := (true, "bde1a0931cc69ae60eba8a45e2de168fb592191e92df8407d01d5ebea65e3046"), looks := false }, kinds := [], alts := [], laidByText := true, laidKinds := [.data, .data], laidTests := true, laidLooks := .later }
def HeapFieldsUptoCardSaid : Prop := Claim7.holds Tryz.pinned (.plain (OpenSpec.upto heapFieldsSpec)) heapFieldsUptoCard

/-- THE SECOND FORM's CARD OF 'hayloftlaw15.HeapOf'. -/
def heapOfUptoCard : Claim7 := { stood := { row := heapOfUptoRow, standIns := [], harness := (true, "bde1a0931cc69ae60eba8a45e2de168fb592191e92df8407d01d5ebea65e3046"), looks := false }, kinds := [], alts := [], laidByText := true, laidKinds := [.data, .data], laidTests := true, laidLooks := .later }
def HeapOfUptoCardSaid : Prop := Claim7.holds Tryz.pinned (.plain (OpenSpec.upto heapOfSpec)) heapOfUptoCard

/-- THE SECOND FORM's CARD OF 'hayloftlaw15.HeapMakes'. -/
def heapMakesUptoCard : Claim7 := { stood := { row := heapMakesUptoRow, standIns := [], harness := (true, "bde1a0931cc69ae60eba8a45e2de168fb592191e92df8407d01d5ebea65e3046"), looks := false }, kinds := [], alts := [], laidByText := true, laidKinds := [.data, .data], laidTests := true, laidLooks := .later }
def HeapMakesUptoCardSaid : Prop := Claim7.holds Tryz.pinned (.plain (OpenSpec.upto heapMakesSpec)) heapMakesUptoCard
end Rows
end Go.Proofs.YtgdjlopnhecmjaaGreatDoor
