/-
  DERIVED. GIVEN WITH THE SEED: THE CARDS: each row of YtdmkekiefbbopaaDoorRows.lean that lists a variable, with what it lists TIED to the program's text (the seventh form; the later family's looks); each row that meets fmt, with fmt's text TOLD by the authors' own Lean function (tested against real Go, not proved from fmt's source: count such statements apart). THE CARD IS WHAT COUNTS. Prove the row's statement (the work); the ties are given (YtdmkekiefbbopaaDoorTie.lean); close each card by the builder's one call (the guide's Derived/Test/ToyasCard.lean, 'card_holds'). Laid BY PROGRAM, IN A SANDBOX (cutbox-door.mjs). By AI agents, Wed Nov 11 2026. No macro, syntax, notation, axiom, sorry.
-/
import Derived.Test.YtdmkekiefbbopaaDoorRows
import GoSem.ClaimSeven
namespace Go.Proofs.YtdmkekiefbbopaaDoor
namespace Rows

/-- THE TIED CARD OF 'patchbaylaw16.PortWords'. -/
def portWordsCard : Claim7 := { stood := { row := portWordsRow, standIns := [], harness := (true, "45b36e94fd4fd72db5b69070588e2867b8d491eed9207ad0edb6f46594962c73"), looks := false }, kinds := [], alts := [], laidByText := true, laidKinds := [.data], laidTests := true, laidLooks := .later }
def PortWordsCardSaid : Prop := Claim7.holds Tryd.pinned (.plain (OpenSpec.ofChange portWordsSpec)) portWordsCard

/-- THE TIED CARD OF 'patchbaylaw16.PortSets'. -/
def portSetsCard : Claim7 := { stood := { row := portSetsRow, standIns := [], harness := (true, "45b36e94fd4fd72db5b69070588e2867b8d491eed9207ad0edb6f46594962c73"), looks := false }, kinds := [], alts := [], laidByText := true, laidKinds := [.data], laidTests := true, laidLooks := .later }
def PortSetsCardSaid : Prop := Claim7.holds Tryd.pinned (.plain (OpenSpec.ofChange portSetsSpec)) portSetsCard

/-- THE TIED CARD OF 'patchbaylaw16.PortNames'. -/
def portNamesCard : Claim7 := { stood := { row := portNamesRow, standIns := [], harness := (true, "45b36e94fd4fd72db5b69070588e2867b8d491eed9207ad0edb6f46594962c73"), looks := false }, kinds := [], alts := [], laidByText := true, laidKinds := [.data], laidTests := true, laidLooks := .later }
def PortNamesCardSaid : Prop := Claim7.holds Tryd.pinned (.plain (OpenSpec.ofChange portNamesSpec)) portNamesCard

/-- THE SECOND FORM's CARD OF 'patchbaylaw16.PortWords'. -/
def portWordsUptoCard : Claim7 := { stood := { row := portWordsUptoRow, standIns := [], harness := (true, "45b36e94fd4fd72db5b69070588e2867b8d491eed9207ad0edb6f46594962c73"), looks := false }, kinds := [], alts := [], laidByText := true, laidKinds := [.data], laidTests := true, laidLooks := .later }
def PortWordsUptoCardSaid : Prop := Claim7.holds Tryd.pinned (.plain (OpenSpec.upto portWordsSpec)) portWordsUptoCard

/-- THE SECOND FORM's CARD OF 'patchbaylaw16.PortSets'. -/
def portSetsUptoCard : Claim7 := { stood := { row := portSetsUptoRow, standIns := [], harness := (true, "45b36e94fd4fd72db5b69070588e2867b8d491eed9207ad0edb6f46594962c73"), looks := false }, kinds := [], alts := [], laidByText := true, laidKinds := [.data], laidTests := true, laidLooks := .later }
def PortSetsUptoCardSaid : Prop := Claim7.holds Tryd.pinned (.plain (OpenSpec.upto portSetsSpec)) portSetsUptoCard

/-- THE SECOND FORM's CARD OF 'patchbaylaw16.PortNames'. -/
def portNamesUptoCard : Claim7 := { stood := { row := portNamesUptoRow, standIns := [], harness := (true, "45b36e94fd4fd72db5b69070588e2867b8d491eed9207ad0edb6f46594962c73"), looks := false }, kinds := [], alts := [], laidByText := true, laidKinds := [.data], laidTests := true, laidLooks := .later }
def PortNamesUptoCardSaid : Prop := Claim7.holds Tryd.pinned (.plain (OpenSpec.upto portNamesSpec)) portNamesUptoCard
end Rows
end Go.Proofs.YtdmkekiefbbopaaDoor
