/-
  DERIVED. GIVEN WITH THE SEED: THE CARDS: each row of YtehmifdgfgngdabDoorRows.lean that lists a variable, with what it lists TIED to the program's text (the seventh form; the later family's looks); each row that meets fmt, with fmt's text TOLD by the authors' own Lean function (tested against real Go, not proved from fmt's source: count such statements apart). THE CARD IS WHAT COUNTS. Prove the row's statement (the work); the ties are given (YtehmifdgfgngdabDoorTie.lean); close each card by the builder's one call (the guide's Derived/Test/ToyasCard.lean, 'card_holds'). Laid BY PROGRAM, IN A SANDBOX (cutbox-door.mjs). By AI agents, Wed Nov 11 2026. No macro, syntax, notation, axiom, sorry.
-/
import Derived.Test.YtehmifdgfgngdabDoorRows
import GoSem.ClaimSeven
namespace Go.Proofs.YtehmifdgfgngdabDoor
namespace Rows

/-- THE TIED CARD OF 'eddylaw1.FrameTorn'. -/
def frameTornCard : Claim7 := { stood := { row := frameTornRow, standIns := [], harness := (true, "e35e489bd517ea2e3e15f6a5af1585169e823f89061c782aba8165b7d38a85de"), looks := false }, kinds := [], alts := [], laidByText := true, laidKinds := [.data], laidTests := true, laidLooks := .later }
def FrameTornCardSaid : Prop := Claim7.holds Tryd.pinned (.plain (OpenSpec.ofChange frameTornSpec)) frameTornCard

/-- THE TIED CARD OF 'eddylaw1.FrameWraps'. -/
def frameWrapsCard : Claim7 := { stood := { row := frameWrapsRow, standIns := [], harness := (true, "e35e489bd517ea2e3e15f6a5af1585169e823f89061c782aba8165b7d38a85de"), looks := false }, kinds := [], alts := [], laidByText := true, laidKinds := [.data], laidTests := true, laidLooks := .later }
def FrameWrapsCardSaid : Prop := Claim7.holds Tryd.pinned (.plain (OpenSpec.ofChange frameWrapsSpec)) frameWrapsCard

/-- THE TIED CARD OF 'eddylaw1.FrameUnwraps'. -/
def frameUnwrapsCard : Claim7 := { stood := { row := frameUnwrapsRow, standIns := [], harness := (true, "e35e489bd517ea2e3e15f6a5af1585169e823f89061c782aba8165b7d38a85de"), looks := false }, kinds := [], alts := [], laidByText := true, laidKinds := [.data], laidTests := true, laidLooks := .later }
def FrameUnwrapsCardSaid : Prop := Claim7.holds Tryd.pinned (.plain (OpenSpec.ofChange frameUnwrapsSpec)) frameUnwrapsCard

/-- THE TIED CARD OF 'eddylaw1.FrameExacts'. -/
def frameExactsCard : Claim7 := { stood := { row := frameExactsRow, standIns := [], harness := (true, "e35e489bd517ea2e3e15f6a5af1585169e823f89061c782aba8165b7d38a85de"), looks := false }, kinds := [], alts := [], laidByText := true, laidKinds := [.data], laidTests := true, laidLooks := .later }
def FrameExactsCardSaid : Prop := Claim7.holds Tryd.pinned (.plain (OpenSpec.ofChange frameExactsSpec)) frameExactsCard

/-- THE TIED CARD OF 'eddylaw1.FrameScans'. -/
def frameScansCard : Claim7 := { stood := { row := frameScansRow, standIns := [], harness := (true, "e35e489bd517ea2e3e15f6a5af1585169e823f89061c782aba8165b7d38a85de"), looks := false }, kinds := [], alts := [], laidByText := true, laidKinds := [.data], laidTests := true, laidLooks := .later }
def FrameScansCardSaid : Prop := Claim7.holds Tryd.pinned (.plain (OpenSpec.ofChange frameScansSpec)) frameScansCard

/-- THE TIED CARD OF 'eddylaw1.FrameJoin'. -/
def frameJoinCard : Claim7 := { stood := { row := frameJoinRow, standIns := [], harness := (true, "e35e489bd517ea2e3e15f6a5af1585169e823f89061c782aba8165b7d38a85de"), looks := false }, kinds := [], alts := [], laidByText := true, laidKinds := [.data], laidTests := true, laidLooks := .later }
def FrameJoinCardSaid : Prop := Claim7.holds Tryd.pinned (.plain (OpenSpec.ofChange frameJoinSpec)) frameJoinCard

/-- THE SECOND FORM's CARD OF 'eddylaw1.FrameTorn'. -/
def frameTornUptoCard : Claim7 := { stood := { row := frameTornUptoRow, standIns := [], harness := (true, "e35e489bd517ea2e3e15f6a5af1585169e823f89061c782aba8165b7d38a85de"), looks := false }, kinds := [], alts := [], laidByText := true, laidKinds := [.data], laidTests := true, laidLooks := .later }
def FrameTornUptoCardSaid : Prop := Claim7.holds Tryd.pinned (.plain (OpenSpec.upto frameTornSpec)) frameTornUptoCard

/-- THE SECOND FORM's CARD OF 'eddylaw1.FrameWraps'. -/
def frameWrapsUptoCard : Claim7 := { stood := { row := frameWrapsUptoRow, standIns := [], harness := (true, "e35e489bd517ea2e3e15f6a5af1585169e823f89061c782aba8165b7d38a85de"), looks := false }, kinds := [], alts := [], laidByText := true, laidKinds := [.data], laidTests := true, laidLooks := .later }
def FrameWrapsUptoCardSaid : Prop := Claim7.holds Tryd.pinned (.plain (OpenSpec.upto frameWrapsSpec)) frameWrapsUptoCard

/-- THE SECOND FORM's CARD OF 'eddylaw1.FrameUnwraps'. -/
def frameUnwrapsUptoCard : Claim7 := { stood := { row := frameUnwrapsUptoRow, standIns := [], harness := (true, "e35e489bd517ea2e3e15f6a5af1585169e823f89061c782aba8165b7d38a85de"), looks := false }, kinds := [], alts := [], laidByText := true, laidKinds := [.data], laidTests := true, laidLooks := .later }
def FrameUnwrapsUptoCardSaid : Prop := Claim7.holds Tryd.pinned (.plain (OpenSpec.upto frameUnwrapsSpec)) frameUnwrapsUptoCard

/-- THE SECOND FORM's CARD OF 'eddylaw1.FrameExacts'. -/
def frameExactsUptoCard : Claim7 := { stood := { row := frameExactsUptoRow, standIns := [], harness := (true, "e35e489bd517ea2e3e15f6a5af1585169e823f89061c782aba8165b7d38a85de"), looks := false }, kinds := [], alts := [], laidByText := true, laidKinds := [.data], laidTests := true, laidLooks := .later }
def FrameExactsUptoCardSaid : Prop := Claim7.holds Tryd.pinned (.plain (OpenSpec.upto frameExactsSpec)) frameExactsUptoCard

/-- THE SECOND FORM's CARD OF 'eddylaw1.FrameScans'. -/
def frameScansUptoCard : Claim7 := { stood := { row := frameScansUptoRow, standIns := [], harness := (true, "e35e489bd517ea2e3e15f6a5af1585169e823f89061c782aba8165b7d38a85de"), looks := false }, kinds := [], alts := [], laidByText := true, laidKinds := [.data], laidTests := true, laidLooks := .later }
def FrameScansUptoCardSaid : Prop := Claim7.holds Tryd.pinned (.plain (OpenSpec.upto frameScansSpec)) frameScansUptoCard

/-- THE SECOND FORM's CARD OF 'eddylaw1.FrameJoin'. -/
def frameJoinUptoCard : Claim7 := { stood := { row := frameJoinUptoRow, standIns := [], harness := (true, "e35e489bd517ea2e3e15f6a5af1585169e823f89061c782aba8165b7d38a85de"), looks := false }, kinds := [], alts := [], laidByText := true, laidKinds := [.data], laidTests := true, laidLooks := .later }
def FrameJoinUptoCardSaid : Prop := Claim7.holds Tryd.pinned (.plain (OpenSpec.upto frameJoinSpec)) frameJoinUptoCard
end Rows
end Go.Proofs.YtehmifdgfgngdabDoor
