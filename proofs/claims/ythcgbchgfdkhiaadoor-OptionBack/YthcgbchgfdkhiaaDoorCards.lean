/-
  DERIVED. GIVEN WITH THE SEED: THE CARDS: each row of YthcgbchgfdkhiaaDoorRows.lean that lists a variable, with what it lists TIED to the program's text (the seventh form; the later family's looks); each row that meets fmt, with fmt's text TOLD by the authors' own Lean function (tested against real Go, not proved from fmt's source: count such statements apart). THE CARD IS WHAT COUNTS. Prove the row's statement (the work); the ties are given (YthcgbchgfdkhiaaDoorTie.lean); close each card by the builder's one call (the guide's Derived/Test/ToyasCard.lean, 'card_holds'). Laid BY PROGRAM, IN A SANDBOX (cutbox-door.mjs). By AI agents, Wed Nov 11 2026. No macro, syntax, notation, axiom, sorry.
-/
import Derived.Test.YthcgbchgfdkhiaaDoorRows
import GoSem.ClaimSeven
namespace Go.Proofs.YthcgbchgfdkhiaaDoor
namespace Rows

/-- THE TIED CARD OF 'parquetlaw8.OptionTells'. -/
def optionTellsCard : Claim7 := { stood := { row := optionTellsRow, standIns := [], harness := (true, "40ba9f78a7f4e94a6ebb8e2a409fa66065c7b6c236c7ffc0b52f11f6f75fe06a"), looks := false }, kinds := [], alts := [], laidByText := true, laidKinds := [.data, .data, .data, .data, .pinned], laidTests := true, laidLooks := .later }
def OptionTellsCardSaid : Prop := Claim7.holds Tryd.pinned (.plain (OpenSpec.ofChange optionTellsSpec)) optionTellsCard

/-- THE TIED CARD OF 'parquetlaw8.OptionBack'. -/
def optionBackCard : Claim7 := { stood := { row := optionBackRow, standIns := [], harness := (true, "40ba9f78a7f4e94a6ebb8e2a409fa66065c7b6c236c7ffc0b52f11f6f75fe06a"), looks := false }, kinds := [], alts := [], laidByText := true, laidKinds := [.data, .data, .data, .data, .pinned], laidTests := true, laidLooks := .later }
def OptionBackCardSaid : Prop := Claim7.holds Tryd.pinned (.plain (OpenSpec.ofChange optionBackSpec)) optionBackCard

/-- THE TIED CARD OF 'parquetlaw8.OptionSides'. -/
def optionSidesCard : Claim7 := { stood := { row := optionSidesRow, standIns := [], harness := (true, "40ba9f78a7f4e94a6ebb8e2a409fa66065c7b6c236c7ffc0b52f11f6f75fe06a"), looks := false }, kinds := [], alts := [], laidByText := true, laidKinds := [.data, .data, .data, .data, .pinned], laidTests := true, laidLooks := .later }
def OptionSidesCardSaid : Prop := Claim7.holds Tryd.pinned (.plain (OpenSpec.ofChange optionSidesSpec)) optionSidesCard

/-- THE SECOND FORM's CARD OF 'parquetlaw8.OptionTells'. -/
def optionTellsUptoCard : Claim7 := { stood := { row := optionTellsUptoRow, standIns := [], harness := (true, "40ba9f78a7f4e94a6ebb8e2a409fa66065c7b6c236c7ffc0b52f11f6f75fe06a"), looks := false }, kinds := [], alts := [], laidByText := true, laidKinds := [.data, .data, .data, .data, .pinned], laidTests := true, laidLooks := .later }
def OptionTellsUptoCardSaid : Prop := Claim7.holds Tryd.pinned (.plain (OpenSpec.upto optionTellsSpec)) optionTellsUptoCard

/-- THE SECOND FORM's CARD OF 'parquetlaw8.OptionBack'. -/
def optionBackUptoCard : Claim7 := { stood := { row := optionBackUptoRow, standIns := [], harness := (true, "40ba9f78a7f4e94a6ebb8e2a409fa66065c7b6c236c7ffc0b52f11f6f75fe06a"), looks := false }, kinds := [], alts := [], laidByText := true, laidKinds := [.data, .data, .data, .data, .pinned], laidTests := true, laidLooks := .later }
def OptionBackUptoCardSaid : Prop := Claim7.holds Tryd.pinned (.plain (OpenSpec.upto optionBackSpec)) optionBackUptoCard

/-- THE SECOND FORM's CARD OF 'parquetlaw8.OptionSides'. -/
def optionSidesUptoCard : Claim7 := { stood := { row := optionSidesUptoRow, standIns := [], harness := (true, "40ba9f78a7f4e94a6ebb8e2a409fa66065c7b6c236c7ffc0b52f11f6f75fe06a"), looks := false }, kinds := [], alts := [], laidByText := true, laidKinds := [.data, .data, .data, .data, .pinned], laidTests := true, laidLooks := .later }
def OptionSidesUptoCardSaid : Prop := Claim7.holds Tryd.pinned (.plain (OpenSpec.upto optionSidesSpec)) optionSidesUptoCard
end Rows
end Go.Proofs.YthcgbchgfdkhiaaDoor
