/-
  DERIVED. GIVEN WITH THE SEED: THE CARDS: each row of YtebiidfdokhpaabGreatDoorRows.lean that lists a variable, with what it lists TIED to the program's text (the seventh form; the later family's looks); each row that meets fmt, with fmt's text TOLD by the authors' own Lean function (tested against real Go, not proved from fmt's source: count such statements apart). THE CARD IS WHAT COUNTS. Prove the row's statement (the work); the ties are given (YtebiidfdokhpaabGreatDoorTie.lean); close each card by the builder's one call (the guide's Derived/Test/ToyasCard.lean, 'card_holds'). Laid BY PROGRAM, IN A SANDBOX (cutbox-door.mjs). By AI agents, Wed Nov 11 2026. No macro, syntax, notation, axiom, sorry.
-/
import Derived.Test.YtebiidfdokhpaabGreatDoorRows
import GoSem.ClaimSeven
namespace Go.Proofs.YtebiidfdokhpaabGreatDoor
namespace Rows

/-- THE TIED CARD OF 'eddylaw10.DiskTwo'. -/
def diskTwoCard : Claim7 := { stood := { row := diskTwoRow, standIns := [], harness := (true, "dbd334ad08f275d809cefeca151ca411e67e9396cd9213cf25fa25d1a1561190"), looks := false }, kinds := [], alts := [], laidByText := true, laidKinds := [.data, .pinned], laidTests := true, laidLooks := .later }
def DiskTwoCardSaid : Prop := Claim7.holds Tryz.pinned (.plain (OpenSpec.ofChange diskTwoSpec)) diskTwoCard

/-- THE TIED CARD OF 'eddylaw10.DiskMany'. -/
def diskManyCard : Claim7 := { stood := { row := diskManyRow, standIns := [], harness := (true, "dbd334ad08f275d809cefeca151ca411e67e9396cd9213cf25fa25d1a1561190"), looks := false }, kinds := [], alts := [], laidByText := true, laidKinds := [.data, .pinned], laidTests := true, laidLooks := .later }
def DiskManyCardSaid : Prop := Claim7.holds Tryz.pinned (.plain (OpenSpec.ofChange diskManySpec)) diskManyCard

/-- THE SECOND FORM's CARD OF 'eddylaw10.DiskTwo'. -/
def diskTwoUptoCard : Claim7 := { stood := { row := diskTwoUptoRow, standIns := [], harness := (true, "dbd334ad08f275d809cefeca151ca411e67e9396cd9213cf25fa25d1a1561190"), looks := false }, kinds := [], alts := [], laidByText := true, laidKinds := [.data, .pinned], laidTests := true, laidLooks := .later }
def DiskTwoUptoCardSaid : Prop := Claim7.holds Tryz.pinned (.plain (OpenSpec.upto diskTwoSpec)) diskTwoUptoCard

/-- THE SECOND FORM's CARD OF 'eddylaw10.DiskMany'. -/
def diskManyUptoCard : Claim7 := { stood := { row := diskManyUptoRow, standIns := [], harness := (true, "dbd334ad08f275d809cefeca151ca411e67e9396cd9213cf25fa25d1a1561190"), looks := false }, kinds := [], alts := [], laidByText := true, laidKinds := [.data, .pinned], laidTests := true, laidLooks := .later }
def DiskManyUptoCardSaid : Prop := Claim7.holds Tryz.pinned (.plain (OpenSpec.upto diskManySpec)) diskManyUptoCard
end Rows
end Go.Proofs.YtebiidfdokhpaabGreatDoor
