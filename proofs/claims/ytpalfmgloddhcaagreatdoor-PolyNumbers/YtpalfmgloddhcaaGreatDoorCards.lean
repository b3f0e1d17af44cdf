/-
  DERIVED. GIVEN WITH THE SEED: THE CARDS: each row of YtpalfmgloddhcaaGreatDoorRows.lean that lists a variable, with what it lists TIED to the program's text (the seventh form; the later family's looks); each row that meets fmt, with fmt's text TOLD by the authors' own Lean function (tested against real Go, not proved from fmt's source: count such statements apart). THE CARD IS WHAT COUNTS. Prove the row's statement (the work); the ties are given (YtpalfmgloddhcaaGreatDoorTie.lean); close each card by the builder's one call (the guide's Derived/Test/ToyasCard.lean, 'card_holds'). Laid BY PROGRAM, IN A SANDBOX (cutbox-door.mjs). By AI agents, Wed Nov 11 2026. No macro, syntax, notation, axiom, sorry.
-/
import Derived.Test.YtpalfmgloddhcaaGreatDoorRows
import GoSem.ClaimSeven
namespace Go.Proofs.YtpalfmgloddhcaaGreatDoor
namespace Rows

/-- THE TIED CARD OF 'parquetlaw7.PolyBack'. -/
def polyBackCard : Claim7 := { stood := { row := polyBackRow, standIns := [], harness := (true, "195c8353db192f09c8a6b2e1da11e919fd2964c3983e40d2a86be9b0f03a211e"), looks := false }, kinds := [], alts := [], laidByText := true, laidKinds := [.data, .data, .data], laidTests := true, laidLooks := .later }
def PolyBackCardSaid : Prop := Claim7.holds Tryz.pinned (.plain (OpenSpec.ofChange polyBackSpec)) polyBackCard

/-- THE TIED CARD OF 'parquetlaw7.PolyNumbers'. -/
def polyNumbersCard : Claim7 := { stood := { row := polyNumbersRow, standIns := [], harness := (true, "195c8353db192f09c8a6b2e1da11e919fd2964c3983e40d2a86be9b0f03a211e"), looks := false }, kinds := [], alts := [], laidByText := true, laidKinds := [.data, .data, .data], laidTests := true, laidLooks := .later }
def PolyNumbersCardSaid : Prop := Claim7.holds Tryz.pinned (.plain (OpenSpec.ofChange polyNumbersSpec)) polyNumbersCard

/-- THE TIED CARD OF 'parquetlaw7.PolyBlanks'. -/
def polyBlanksCard : Claim7 := { stood := { row := polyBlanksRow, standIns := [], harness := (true, "195c8353db192f09c8a6b2e1da11e919fd2964c3983e40d2a86be9b0f03a211e"), looks := false }, kinds := [], alts := [], laidByText := true, laidKinds := [.data, .data, .data], laidTests := true, laidLooks := .later }
def PolyBlanksCardSaid : Prop := Claim7.holds Tryz.pinned (.plain (OpenSpec.ofChange polyBlanksSpec)) polyBlanksCard

/-- THE SECOND FORM's CARD OF 'parquetlaw7.PolyBack'. -/
def polyBackUptoCard : Claim7 := { stood := { row := polyBackUptoRow, standIns := [], harness := (true, "195c8353db192f09c8a6b2e1da11e919fd2964c3983e40d2a86be9b0f03a211e"), looks := false }, kinds := [], alts := [], laidByText := true, laidKinds := [.data, .data, .data], laidTests := true, laidLooks := .later }
def PolyBackUptoCardSaid : Prop := Claim7.holds Tryz.pinned (.plain (OpenSpec.upto polyBackSpec)) polyBackUptoCard

/-- THE SECOND FORM's CARD OF 'parquetlaw7.PolyNumbers'. -/
def polyNumbersUptoCard : Claim7 := { stood := { row := polyNumbersUptoRow, standIns := [], harness := (true, "195c8353db192f09c8a6b2e1da11e919fd2964c3983e40d2a86be9b0f03a211e"), looks := false }, kinds := [], alts := [], laidByText := true, laidKinds := [.data, .data, .data], laidTests := true, laidLooks := .later }
def PolyNumbersUptoCardSaid : Prop := Claim7.holds Tryz.pinned (.plain (OpenSpec.upto polyNumbersSpec)) polyNumbersUptoCard

/-- THE SECOND FORM's CARD OF 'parquetlaw7.PolyBlanks'. -/
def polyBlanksUptoCard : Claim7 := { stood := { row := polyBlanksUptoRow, standIns := [], harness := (true, "195c8353db192f09c8a6b2e1da11e919fd2964c3983e40d2a86be9b0f03a211e"), looks := false }, kinds := [], alts := [], laidByText := true, laidKinds := [.data, .data, .data], laidTests := true, laidLooks := .later }
def PolyBlanksUptoCardSaid : Prop := Claim7.holds Tryz.pinned (.plain (OpenSpec.upto polyBlanksSpec)) polyBlanksUptoCard
end Rows
end Go.Proofs.YtpalfmgloddhcaaGreatDoor
