/-
  DERIVED. GIVEN WITH THE SEED: THE CARDS: each row of YtkfcilandmhomaaDoorRows.lean that lists a variable, with what it lists TIED to the program's text (the seventh form; the later family's looks); each row that meets fmt, with fmt's text TOLD by the authors' own Lean function (tested against real Go, not proved from fmt's source: count such statements apart). THE CARD IS WHAT COUNTS. Prove the row's statement (the work); the ties are given (YtkfcilandmhomaaDoorTie.lean); close each card by the builder's one call (the guide's Derived/Test/ToyasCard.lean, 'card_holds'). Laid BY PROGRAM, IN A SANDBOX (cutbox-door.mjs). By AI agents, Wed Nov 11 2026. No macro, syntax, notation, axiom, sorry.
-/
import Derived.Test.YtkfcilandmhomaaDoorRows
import GoSem.ClaimSeven
namespace Go.Proofs.YtkfcilandmhomaaDoor
namespace Rows

/-- THE TIED CARD OF 'eddylaw10.DiskSure'. -/
def diskSureCard : Claim7 := { stood := { row := diskSureRow, standIns := [], harness := (true, "878a672467dab201cf6fb556f2bd09c2514708e025623bf8c9c705c4f8517023"), looks := false }, kinds := [], alts := [], laidByText := true, laidKinds := [.data, .pinned], laidTests := true, laidLooks := .later }
def DiskSureCardSaid : Prop := Claim7.holds Tryd.pinned (.plain (OpenSpec.ofChange diskSureSpec)) diskSureCard

/-- THE TIED CARD OF 'eddylaw10.DiskWhole'. -/
def diskWholeCard : Claim7 := { stood := { row := diskWholeRow, standIns := [], harness := (true, "878a672467dab201cf6fb556f2bd09c2514708e025623bf8c9c705c4f8517023"), looks := false }, kinds := [], alts := [], laidByText := true, laidKinds := [.data, .pinned], laidTests := true, laidLooks := .later }
def DiskWholeCardSaid : Prop := Claim7.holds Tryd.pinned (.plain (OpenSpec.ofChange diskWholeSpec)) diskWholeCard

/-- THE TIED CARD OF 'eddylaw10.DiskPoints'. -/
def diskPointsCard : Claim7 := { stood := { row := diskPointsRow, standIns := [], harness := (true, "878a672467dab201cf6fb556f2bd09c2514708e025623bf8c9c705c4f8517023"), looks := false }, kinds := [], alts := [], laidByText := true, laidKinds := [.data, .pinned], laidTests := true, laidLooks := .later }
def DiskPointsCardSaid : Prop := Claim7.holds Tryd.pinned (.plain (OpenSpec.ofChange diskPointsSpec)) diskPointsCard

/-- THE TIED CARD OF 'eddylaw10.DiskFails'. -/
def diskFailsCard : Claim7 := { stood := { row := diskFailsRow, standIns := [], harness := (true, "878a672467dab201cf6fb556f2bd09c2514708e025623bf8c9c705c4f8517023"), looks := false }, kinds := [], alts := [], laidByText := true, laidKinds := [.data, .pinned], laidTests := true, laidLooks := .later }
def DiskFailsCardSaid : Prop := Claim7.holds Tryd.pinned (.plain (OpenSpec.ofChange diskFailsSpec)) diskFailsCard

/-- THE SECOND FORM's CARD OF 'eddylaw10.DiskSure'. -/
def diskSureUptoCard : Claim7 := { stood := { row := diskSureUptoRow, standIns := [], harness := (true, "878a672467dab201cf6fb556f2bd09c2514708e025623bf8c9c705c4f8517023"), looks := false }, kinds := [], alts := [], laidByText := true, laidKinds := [.data, .pinned], laidTests := true, laidLooks := .later }
def DiskSureUptoCardSaid : Prop := Claim7.holds Tryd.pinned (.plain (OpenSpec.upto diskSureSpec)) diskSureUptoCard

/-- THE SECOND FORM's CARD OF 'eddylaw10.DiskWhole'. -/
def diskWholeUptoCard : Claim7 := { stood := { row := diskWholeUptoRow, standIns := [], harness := (true, "878a672467dab201cf6fb556f2bd09c2514708e025623bf8c9c705c4f8517023"), looks := false }, kinds := [], alts := [], laidByText := true, laidKinds := [.data, .pinned], laidTests := true, laidLooks := .later }
def DiskWholeUptoCardSaid : Prop := Claim7.holds Tryd.pinned (.plain (OpenSpec.upto diskWholeSpec)) diskWholeUptoCard

/-- THE SECOND FORM's CARD OF 'eddylaw10.DiskPoints'. -/
def diskPointsUptoCard : Claim7 := { stood := { row := diskPointsUptoRow, standIns := [], harness := (true, "878a672467dab201cf6fb556f2bd09c2514708e025623bf8c9c705c4f8517023"), looks := false }, kinds := [], alts := [], laidByText := true, laidKinds := [.data, .pinned], laidTests := true, laidLooks := .later }
def DiskPointsUptoCardSaid : Prop := Claim7.holds Tryd.pinned (.plain (OpenSpec.upto diskPointsSpec)) diskPointsUptoCard

/-- THE SECOND FORM's CARD OF 'eddylaw10.DiskFails'. -/
def diskFailsUptoCard : Claim7 := { stood := { row := diskFailsUptoRow, standIns := [], harness := (true, "878a672467dab201cf6fb556f2bd09c2514708e025623bf8c9c705c4f8517023"), looks := false }, kinds := [], alts := [], laidByText := true, laidKinds := [.data, .pinned], laidTests := true, laidLooks := .later }
def DiskFailsUptoCardSaid : Prop := Claim7.holds Tryd.pinned (.plain (OpenSpec.upto diskFailsSpec)) diskFailsUptoCard
end Rows
end Go.Proofs.YtkfcilandmhomaaDoor
