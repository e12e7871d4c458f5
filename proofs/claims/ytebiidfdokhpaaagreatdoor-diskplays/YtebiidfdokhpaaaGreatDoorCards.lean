/-
  DERIVED. GIVEN WITH THE SEED: THE CARDS: each row of YtebiidfdokhpaaaGreatDoorRows.lean that lists a variable, with what it lists TIED to the program's text (the seventh form; the later family's looks); each row that meets fmt, with fmt's text TOLD by the authors' own Lean function (tested against real Go, not proved from fmt's source: count such statements apart). THE CARD IS WHAT COUNTS. Prove the row's statement (the work); the ties are given (YtebiidfdokhpaaaGreatDoorTie.lean); close each card by the builder's one call (the guide's Derived/Test/ToyasCard.lean, 'card_holds'). Laid BY PROGRAM, IN A SANDBOX (cutbox-door.mjs). By AI agents, Wed Nov 11 2026. No macro, syntax, notation, axiom, sorry.
-/
import Derived.Test.YtebiidfdokhpaaaGreatDoorRows
import GoSem.ClaimSeven
namespace Go.Proofs.YtebiidfdokhpaaaGreatDoor
namespace Rows

/-- THE TIED CARD OF 'eddylaw10.DiskChanges'. -/
def diskChangesCard : Claim7 := { stood := { row := diskChangesRow, standIns := [], harness := (true, "c2e6a4066178e76888bcead9944ec175c044f36e6e44ff3f7c77b475db08e5b1"), looks := false }, kinds := [], alts := [], laidByText := true, laidKinds := [.data, .pinned], laidTests := true, laidLooks := .later }
def DiskChangesCardSaid : Prop := Claim7.holds Tryz.pinned (.plain (OpenSpec.ofChange diskChangesSpec)) diskChangesCard

/-- THE TIED CARD OF 'eddylaw10.DiskReads'. -/
def diskReadsCard : Claim7 := { stood := { row := diskReadsRow, standIns := [], harness := (true, "c2e6a4066178e76888bcead9944ec175c044f36e6e44ff3f7c77b475db08e5b1"), looks := false }, kinds := [], alts := [], laidByText := true, laidKinds := [.data, .pinned], laidTests := true, laidLooks := .later }
def DiskReadsCardSaid : Prop := Claim7.holds Tryz.pinned (.plain (OpenSpec.ofChange diskReadsSpec)) diskReadsCard

/-- THE TIED CARD OF 'eddylaw10.DiskSpoils'. -/
def diskSpoilsCard : Claim7 := { stood := { row := diskSpoilsRow, standIns := [], harness := (true, "c2e6a4066178e76888bcead9944ec175c044f36e6e44ff3f7c77b475db08e5b1"), looks := false }, kinds := [], alts := [], laidByText := true, laidKinds := [.data, .pinned], laidTests := true, laidLooks := .later }
def DiskSpoilsCardSaid : Prop := Claim7.holds Tryz.pinned (.plain (OpenSpec.ofChange diskSpoilsSpec)) diskSpoilsCard

/-- THE TIED CARD OF 'eddylaw10.DiskLies'. -/
def diskLiesCard : Claim7 := { stood := { row := diskLiesRow, standIns := [], harness := (true, "c2e6a4066178e76888bcead9944ec175c044f36e6e44ff3f7c77b475db08e5b1"), looks := false }, kinds := [], alts := [], laidByText := true, laidKinds := [.data, .pinned], laidTests := true, laidLooks := .later }
def DiskLiesCardSaid : Prop := Claim7.holds Tryz.pinned (.plain (OpenSpec.ofChange diskLiesSpec)) diskLiesCard

/-- THE TIED CARD OF 'eddylaw10.DiskPlays'. -/
def diskPlaysCard : Claim7 := { stood := { row := diskPlaysRow, standIns := [], harness := (true, "c2e6a4066178e76888bcead9944ec175c044f36e6e44ff3f7c77b475db08e5b1"), looks := false }, kinds := [], alts := [], laidByText := true, laidKinds := [.data, .pinned], laidTests := true, laidLooks := .later }
def DiskPlaysCardSaid : Prop := Claim7.holds Tryz.pinned (.plain (OpenSpec.ofChange diskPlaysSpec)) diskPlaysCard

/-- THE SECOND FORM's CARD OF 'eddylaw10.DiskChanges'. -/
def diskChangesUptoCard : Claim7 := { stood := { row := diskChangesUptoRow, standIns := [], harness := (true, "c2e6a4066178e76888bcead9944ec175c044f36e6e44ff3f7c77b475db08e5b1"), looks := false }, kinds := [], alts := [], laidByText := true, laidKinds := [.data, .pinned], laidTests := true, laidLooks := .later }
def DiskChangesUptoCardSaid : Prop := Claim7.holds Tryz.pinned (.plain (OpenSpec.upto diskChangesSpec)) diskChangesUptoCard

/-- THE SECOND FORM's CARD OF 'eddylaw10.DiskReads'. -/
def diskReadsUptoCard : Claim7 := { stood := { row := diskReadsUptoRow, standIns := [], harness := (true, "c2e6a4066178e76888bcead9944ec175c044f36e6e44ff3f7c77b475db08e5b1"), looks := false }, kinds := [], alts := [], laidByText := true, laidKinds := [.data, .pinned], laidTests := true, laidLooks := .later }
def DiskReadsUptoCardSaid : Prop := Claim7.holds Tryz.pinned (.plain (OpenSpec.upto diskReadsSpec)) diskReadsUptoCard

/-- THE SECOND FORM's CARD OF 'eddylaw10.DiskSpoils'. -/
def diskSpoilsUptoCard : Claim7 := { stood := { row := diskSpoilsUptoRow, standIns := [], harness := (true, "c2e6a4066178e76888bcead9944ec175c044f36e6e44ff3f7c77b475db08e5b1"), looks := false }, kinds := [], alts := [], laidByText := true, laidKinds := [.data, .pinned], laidTests := true, laidLooks := .later }
def DiskSpoilsUptoCardSaid : Prop := Claim7.holds Tryz.pinned (.plain (OpenSpec.upto diskSpoilsSpec)) diskSpoilsUptoCard

/-- THE SECOND FORM's CARD OF 'eddylaw10.DiskLies'. -/
def diskLiesUptoCard : Claim7 := { stood := { row := diskLiesUptoRow, standIns := [], harness := (true, "c2e6a4066178e76888bcead9944ec175c044f36e6e44ff3f7c77b475db08e5b1"), looks := false }, kinds := [], alts := [], laidByText := true, laidKinds := [.data, .pinned], laidTests := true, laidLooks := .later }
def DiskLiesUptoCardSaid : Prop := Claim7.holds Tryz.pinned (.plain (OpenSpec.upto diskLiesSpec)) diskLiesUptoCard

/-- THE SECOND FORM's CARD OF 'eddylaw10.DiskPlays'. -/
def diskPlaysUptoCard : Claim7 := { stood := { row := diskPlaysUptoRow, standIns := [], harness := (true, "c2e6a4066178e76888bcead9944ec175c044f36e6e44ff3f7c77b475db08e5b1"), looks := false }, kinds := [], alts := [], laidByText := true, laidKinds := [.data, .pinned], laidTests := true, laidLooks := .later }
def DiskPlaysUptoCardSaid : Prop := Claim7.holds Tryz.pinned (.plain (OpenSpec.upto diskPlaysSpec)) diskPlaysUptoCard
end Rows
end Go.Proofs.YtebiidfdokhpaaaGreatDoor
