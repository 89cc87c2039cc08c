/-
  DERIVED. GIVEN WITH THE SEED: THE CARDS: each row of YtoagooclaphdbaaGreatDoorRows.lean that lists a variable, with what it lists TIED to the program's text (the seventh form; the later family's looks); each row that meets fmt, with fmt's text TOLD by the authors' own Lean function (tested against real Go, not proved from fmt's source: count such statements apart). THE CARD IS WHAT COUNTS. Prove the row's statement (the work); the ties are given (YtoagooclaphdbaaGreatDoorTie.lean); close each card by the builder's one call (the guide's Derived/Test/ToyasCard.lean, 'card_holds'). Laid BY PROGRAM, IN A SANDBOX (cutbox-door.mjs). By AI agents, Wed Nov 11 2026. No macro, syntax, notation, axiom, sorry.
-/
import Derived.Test.YtoagooclaphdbaaGreatDoorRows
import GoSem.ClaimSeven
namespace Go.Proofs.YtoagooclaphdbaaGreatDoor
namespace Rows

/-- THE TIED CARD OF 'almanaclaw.Reads'. -/
def readsCard : Claim7 := { stood := { row := readsRow, standIns := [], harness := (true, "5bd645f4baa6ed3ac9fa6c7464c648a16a0bc3ba288a5a544891977565a8c92e"), looks := true }, kinds := [], alts := [], laidByText := true, laidKinds := [.data, .data, .data, .sentinel, .sentinel], laidTests := true, laidLooks := .later }
def ReadsCardSaid : Prop := Claim7.holds Tryz.pinned (.plain (OpenSpec.ofChange readsSpec)) readsCard

/-- THE TIED CARD OF 'almanaclaw.Tells'. -/
def tellsCard : Claim7 := { stood := { row := tellsRow, standIns := [], harness := (true, "5bd645f4baa6ed3ac9fa6c7464c648a16a0bc3ba288a5a544891977565a8c92e"), looks := true }, kinds := [], alts := [], laidByText := true, laidKinds := [.data, .data, .data, .sentinel, .sentinel], laidTests := true, laidLooks := .later }
def TellsCardSaid : Prop := Claim7.holds Tryz.pinned (.plain (OpenSpec.ofChange tellsSpec)) tellsCard

/-- THE TIED CARD OF 'almanaclaw.Answers'. -/
def answersCard : Claim7 := { stood := { row := answersRow, standIns := [], harness := (true, "5bd645f4baa6ed3ac9fa6c7464c648a16a0bc3ba288a5a544891977565a8c92e"), looks := true }, kinds := [], alts := [], laidByText := true, laidKinds := [.data, .data, .data, .sentinel, .sentinel], laidTests := true, laidLooks := .later }
def AnswersCardSaid : Prop := Claim7.holds Tryz.pinned (.plain (OpenSpec.ofChange answersSpec)) answersCard

/-- THE TIED CARD OF 'almanackeep.Anew'. -/
def anewCard : Claim7 := { stood := { row := anewRow, standIns := [], harness := (true, "5bd645f4baa6ed3ac9fa6c7464c648a16a0bc3ba288a5a544891977565a8c92e"), looks := true }, kinds := [], alts := [], laidByText := true, laidKinds := [.data, .data, .data, .sentinel, .sentinel], laidTests := true, laidLooks := .later }
def AnewCardSaid : Prop := Claim7.holds Tryz.pinned (.plain (OpenSpec.ofChange anewSpec)) anewCard

/-- THE TIED CARD OF 'almanackeep.Folded'. -/
def foldedCard : Claim7 := { stood := { row := foldedRow, standIns := [], harness := (true, "5bd645f4baa6ed3ac9fa6c7464c648a16a0bc3ba288a5a544891977565a8c92e"), looks := true }, kinds := [], alts := [], laidByText := true, laidKinds := [.data, .data, .data, .sentinel, .sentinel], laidTests := true, laidLooks := .later }
def FoldedCardSaid : Prop := Claim7.holds Tryz.pinned (.plain (OpenSpec.ofChange foldedSpec)) foldedCard

/-- THE TIED CARD OF 'almanackeep.Ring'. -/
def ringCard : Claim7 := { stood := { row := ringRow, standIns := [], harness := (true, "5bd645f4baa6ed3ac9fa6c7464c648a16a0bc3ba288a5a544891977565a8c92e"), looks := true }, kinds := [], alts := [], laidByText := true, laidKinds := [.data, .data, .data, .sentinel, .sentinel], laidTests := true, laidLooks := .later }
def RingCardSaid : Prop := Claim7.holds Tryz.pinned (.plain (OpenSpec.ofChange ringSpec)) ringCard

/-- THE TIED CARD OF 'almanaclaw.Runs'. -/
def runsCard : Claim7 := { stood := { row := runsRow, standIns := [], harness := (true, "5bd645f4baa6ed3ac9fa6c7464c648a16a0bc3ba288a5a544891977565a8c92e"), looks := true }, kinds := [], alts := [], laidByText := true, laidKinds := [.data, .data, .data, .sentinel, .sentinel], laidTests := true, laidLooks := .later }
def RunsCardSaid : Prop := Claim7.holds Tryz.pinned (.plain (OpenSpec.ofChange runsSpec)) runsCard

/-- THE TIED CARD OF 'almanackeep.Twice'. -/
def twiceCard : Claim7 := { stood := { row := twiceRow, standIns := [], harness := (true, "5bd645f4baa6ed3ac9fa6c7464c648a16a0bc3ba288a5a544891977565a8c92e"), looks := true }, kinds := [], alts := [], laidByText := true, laidKinds := [.data, .data, .data, .sentinel, .sentinel], laidTests := true, laidLooks := .later }
def TwiceCardSaid : Prop := Claim7.holds Tryz.pinned (.plain (OpenSpec.ofChange twiceSpec)) twiceCard

/-- THE TIED CARD OF 'almanackeep.Blanks'. -/
def blanksCard : Claim7 := { stood := { row := blanksRow, standIns := [], harness := (true, "5bd645f4baa6ed3ac9fa6c7464c648a16a0bc3ba288a5a544891977565a8c92e"), looks := true }, kinds := [], alts := [], laidByText := true, laidKinds := [.data, .data, .data, .sentinel, .sentinel], laidTests := true, laidLooks := .later }
def BlanksCardSaid : Prop := Claim7.holds Tryz.pinned (.plain (OpenSpec.ofChange blanksSpec)) blanksCard

/-- THE TIED CARD OF 'almanackeep.Once'. -/
def onceCard : Claim7 := { stood := { row := onceRow, standIns := [], harness := (true, "5bd645f4baa6ed3ac9fa6c7464c648a16a0bc3ba288a5a544891977565a8c92e"), looks := true }, kinds := [], alts := [], laidByText := true, laidKinds := [.data, .data, .data, .sentinel, .sentinel], laidTests := true, laidLooks := .later }
def OnceCardSaid : Prop := Claim7.holds Tryz.pinned (.plain (OpenSpec.ofChange onceSpec)) onceCard

/-- THE SECOND FORM's CARD OF 'almanaclaw.Reads'. -/
def readsUptoCard : Claim7 := { stood := { row := readsUptoRow, standIns := [], harness := (true, "5bd645f4baa6ed3ac9fa6c7464c648a16a0bc3ba288a5a544891977565a8c92e"), looks := true }, kinds := [], alts := [], laidByText := true, laidKinds := [.data, .data, .data, .sentinel, .sentinel], laidTests := true, laidLooks := .later }
def ReadsUptoCardSaid : Prop := Claim7.holds Tryz.pinned (.plain (OpenSpec.upto readsSpec)) readsUptoCard

/-- THE SECOND FORM's CARD OF 'almanaclaw.Tells'. -/
def tellsUptoCard : Claim7 := { stood := { row := tellsUptoRow, standIns := [], harness := (true, "5bd645f4baa6ed3ac9fa6c7464c648a16a0bc3ba288a5a544891977565a8c92e"), looks := true }, kinds := [], alts := [], laidByText := true, laidKinds := [.data, .data, .data, .sentinel, .sentinel], laidTests := true, laidLooks := .later }
def TellsUptoCardSaid : Prop := Claim7.holds Tryz.pinned (.plain (OpenSpec.upto tellsSpec)) tellsUptoCard

/-- THE SECOND FORM's CARD OF 'almanaclaw.Answers'. -/
def answersUptoCard : Claim7 := { stood := { row := answersUptoRow, standIns := [], harness := (true, "5bd645f4baa6ed3ac9fa6c7464c648a16a0bc3ba288a5a544891977565a8c92e"), looks := true }, kinds := [], alts := [], laidByText := true, laidKinds := [.data, .data, .data, .sentinel, .sentinel], laidTests := true, laidLooks := .later }
def AnswersUptoCardSaid : Prop := Claim7.holds Tryz.pinned (.plain (OpenSpec.upto answersSpec)) answersUptoCard

/-- THE SECOND FORM's CARD OF 'almanackeep.Anew'. -/
def anewUptoCard : Claim7 := { stood := { row := anewUptoRow, standIns := [], harness := (true, "5bd645f4baa6ed3ac9fa6c7464c648a16a0bc3ba288a5a544891977565a8c92e"), looks := true }, kinds := [], alts := [], laidByText := true, laidKinds := [.data, .data, .data, .sentinel, .sentinel], laidTests := true, laidLooks := .later }
def AnewUptoCardSaid : Prop := Claim7.holds Tryz.pinned (.plain (OpenSpec.upto anewSpec)) anewUptoCard

/-- THE SECOND FORM's CARD OF 'almanackeep.Folded'. -/
def foldedUptoCard : Claim7 := { stood := { row := foldedUptoRow, standIns := [], harness := (true, "5bd645f4baa6ed3ac9fa6c7464c648a16a0bc3ba288a5a544891977565a8c92e"), looks := true }, kinds := [], alts := [], laidByText := true, laidKinds := [.data, .data, .data, .sentinel, .sentinel], laidTests := true, laidLooks := .later }
def FoldedUptoCardSaid : Prop := Claim7.holds Tryz.pinned (.plain (OpenSpec.upto foldedSpec)) foldedUptoCard

/-- THE SECOND FORM's CARD OF 'almanackeep.Ring'. -/
def ringUptoCard : Claim7 := { stood := { row := ringUptoRow, standIns := [], harness := (true, "5bd645f4baa6ed3ac9fa6c7464c648a16a0bc3ba288a5a544891977565a8c92e"), looks := true }, kinds := [], alts := [], laidByText := true, laidKinds := [.data, .data, .data, .sentinel, .sentinel], laidTests := true, laidLooks := .later }
def RingUptoCardSaid : Prop := Claim7.holds Tryz.pinned (.plain (OpenSpec.upto ringSpec)) ringUptoCard

/-- THE SECOND FORM's CARD OF 'almanaclaw.Runs'. -/
def runsUptoCard : Claim7 := { stood := { row := runsUptoRow, standIns := [], harness := (true, "5bd645f4baa6ed3ac9fa6c7464c648a16a0bc3ba288a5a544891977565a8c92e"), looks := true }, kinds := [], alts := [], laidByText := true, laidKinds := [.data, .data, .data, .sentinel, .sentinel], laidTests := true, laidLooks := .later }
def RunsUptoCardSaid : Prop := Claim7.holds Tryz.pinned (.plain (OpenSpec.upto runsSpec)) runsUptoCard

/-- THE SECOND FORM's CARD OF 'almanackeep.Twice'. -/
def twiceUptoCard : Claim7 := { stood := { row := twiceUptoRow, standIns := [], harness := (true, "5bd645f4baa6ed3ac9fa6c7464c648a16a0bc3ba288a5a544891977565a8c92e"), looks := true }, kinds := [], alts := [], laidByText := true, laidKinds := [.data, .data, .data, .sentinel, .sentinel], laidTests := true, laidLooks := .later }
def TwiceUptoCardSaid : Prop := Claim7.holds Tryz.pinned (.plain (OpenSpec.upto twiceSpec)) twiceUptoCard

/-- THE SECOND FORM's CARD OF 'almanackeep.Blanks'. -/
def blanksUptoCard : Claim7 := { stood := { row := blanksUptoRow, standIns := [], harness := (true, "5bd645f4baa6ed3ac9fa6c7464c648a16a0bc3ba288a5a544891977565a8c92e"), looks := true }, kinds := [], alts := [], laidByText := true, laidKinds := [.data, .data, .data, .sentinel, .sentinel], laidTests := true, laidLooks := .later }
def BlanksUptoCardSaid : Prop := Claim7.holds Tryz.pinned (.plain (OpenSpec.upto blanksSpec)) blanksUptoCard

/-- THE SECOND FORM's CARD OF 'almanackeep.Once'. -/
def onceUptoCard : Claim7 := { stood := { row := onceUptoRow, standIns := [], harness := (true, "5bd645f4baa6ed3ac9fa6c7464c648a16a0bc3ba288a5a544891977565a8c92e"), looks := true }, kinds := [], alts := [], laidByText := true, laidKinds := [.data, .data, .data, .sentinel, .sentinel], laidTests := true, laidLooks := .later }
def OnceUptoCardSaid : Prop := Claim7.holds Tryz.pinned (.plain (OpenSpec.upto onceSpec)) onceUptoCard
end Rows
end Go.Proofs.YtoagooclaphdbaaGreatDoor
