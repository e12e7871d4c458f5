/-
  DERIVED. GIVEN WITH THE SEED: THE CARDS: each row of YtehmifdgfgngdaaDoorRows.lean that lists a variable, with what it lists TIED to the program's text (the seventh form; the later family's looks); each row that meets fmt, with fmt's text TOLD by the authors' own Lean function (tested against real Go, not proved from fmt's source: count such statements apart). THE CARD IS WHAT COUNTS. Prove the row's statement (the work); the ties are given (YtehmifdgfgngdaaDoorTie.lean); close each card by the builder's one call (the guide's Derived/Test/ToyasCard.lean, 'card_holds'). Laid BY PROGRAM, IN A SANDBOX (cutbox-door.mjs). By AI agents, Wed Nov 11 2026. No macro, syntax, notation, axiom, sorry.
-/
import Derived.Test.YtehmifdgfgngdaaDoorRows
import GoSem.ClaimSeven
namespace Go.Proofs.YtehmifdgfgngdaaDoor
namespace Rows

/-- THE TIED CARD OF 'eddylaw1.FrameLinear'. -/
def frameLinearCard : Claim7 := { stood := { row := frameLinearRow, standIns := [], harness := (true, "82344ca2fa1b8e8eb9a9b205bcdce84c19aa1d7a6045c3e17a0761b8a2a0cafa"), looks := false }, kinds := [], alts := [], laidByText := true, laidKinds := [.data], laidTests := true, laidLooks := .later }
def FrameLinearCardSaid : Prop := Claim7.holds Tryd.pinned (.plain (OpenSpec.ofChange frameLinearSpec)) frameLinearCard

/-- THE TIED CARD OF 'eddylaw1.FrameSums'. -/
def frameSumsCard : Claim7 := { stood := { row := frameSumsRow, standIns := [], harness := (true, "82344ca2fa1b8e8eb9a9b205bcdce84c19aa1d7a6045c3e17a0761b8a2a0cafa"), looks := false }, kinds := [], alts := [], laidByText := true, laidKinds := [.data], laidTests := true, laidLooks := .later }
def FrameSumsCardSaid : Prop := Claim7.holds Tryd.pinned (.plain (OpenSpec.ofChange frameSumsSpec)) frameSumsCard

/-- THE TIED CARD OF 'eddylaw1.FrameFlip'. -/
def frameFlipCard : Claim7 := { stood := { row := frameFlipRow, standIns := [], harness := (true, "82344ca2fa1b8e8eb9a9b205bcdce84c19aa1d7a6045c3e17a0761b8a2a0cafa"), looks := false }, kinds := [], alts := [], laidByText := true, laidKinds := [.data], laidTests := true, laidLooks := .later }
def FrameFlipCardSaid : Prop := Claim7.holds Tryd.pinned (.plain (OpenSpec.ofChange frameFlipSpec)) frameFlipCard

/-- THE TIED CARD OF 'eddylaw1.FrameWalk'. -/
def frameWalkCard : Claim7 := { stood := { row := frameWalkRow, standIns := [], harness := (true, "82344ca2fa1b8e8eb9a9b205bcdce84c19aa1d7a6045c3e17a0761b8a2a0cafa"), looks := false }, kinds := [], alts := [], laidByText := true, laidKinds := [.data], laidTests := true, laidLooks := .later }
def FrameWalkCardSaid : Prop := Claim7.holds Tryd.pinned (.plain (OpenSpec.ofChange frameWalkSpec)) frameWalkCard

/-- THE TIED CARD OF 'eddylaw1.FrameBurst'. -/
def frameBurstCard : Claim7 := { stood := { row := frameBurstRow, standIns := [], harness := (true, "82344ca2fa1b8e8eb9a9b205bcdce84c19aa1d7a6045c3e17a0761b8a2a0cafa"), looks := false }, kinds := [], alts := [], laidByText := true, laidKinds := [.data], laidTests := true, laidLooks := .later }
def FrameBurstCardSaid : Prop := Claim7.holds Tryd.pinned (.plain (OpenSpec.ofChange frameBurstSpec)) frameBurstCard

/-- THE TIED CARD OF 'eddylaw1.FrameBack'. -/
def frameBackCard : Claim7 := { stood := { row := frameBackRow, standIns := [], harness := (true, "82344ca2fa1b8e8eb9a9b205bcdce84c19aa1d7a6045c3e17a0761b8a2a0cafa"), looks := false }, kinds := [], alts := [], laidByText := true, laidKinds := [.data], laidTests := true, laidLooks := .later }
def FrameBackCardSaid : Prop := Claim7.holds Tryd.pinned (.plain (OpenSpec.ofChange frameBackSpec)) frameBackCard

/-- THE SECOND FORM's CARD OF 'eddylaw1.FrameLinear'. -/
def frameLinearUptoCard : Claim7 := { stood := { row := frameLinearUptoRow, standIns := [], harness := (true, "82344ca2fa1b8e8eb9a9b205bcdce84c19aa1d7a6045c3e17a0761b8a2a0cafa"), looks := false }, kinds := [], alts := [], laidByText := true, laidKinds := [.data], laidTests := true, laidLooks := .later }
def FrameLinearUptoCardSaid : Prop := Claim7.holds Tryd.pinned (.plain (OpenSpec.upto frameLinearSpec)) frameLinearUptoCard

/-- THE SECOND FORM's CARD OF 'eddylaw1.FrameSums'. -/
def frameSumsUptoCard : Claim7 := { stood := { row := frameSumsUptoRow, standIns := [], harness := (true, "82344ca2fa1b8e8eb9a9b205bcdce84c19aa1d7a6045c3e17a0761b8a2a0cafa"), looks := false }, kinds := [], alts := [], laidByText := true, laidKinds := [.data], laidTests := true, laidLooks := .later }
def FrameSumsUptoCardSaid : Prop := Claim7.holds Tryd.pinned (.plain (OpenSpec.upto frameSumsSpec)) frameSumsUptoCard

/-- THE SECOND FORM's CARD OF 'eddylaw1.FrameFlip'. -/
def frameFlipUptoCard : Claim7 := { stood := { row := frameFlipUptoRow, standIns := [], harness := (true, "82344ca2fa1b8e8eb9a9b205bcdce84c19aa1d7a6045c3e17a0761b8a2a0cafa"), looks := false }, kinds := [], alts := [], laidByText := true, laidKinds := [.data], laidTests := true, laidLooks := .later }
def FrameFlipUptoCardSaid : Prop := Claim7.holds Tryd.pinned (.plain (OpenSpec.upto frameFlipSpec)) frameFlipUptoCard

/-- THE SECOND FORM's CARD OF 'eddylaw1.FrameWalk'. -/
def frameWalkUptoCard : Claim7 := { stood := { row := frameWalkUptoRow, standIns := [], harness := (true, "82344ca2fa1b8e8eb9a9b205bcdce84c19aa1d7a6045c3e17a0761b8a2a0cafa"), looks := false }, kinds := [], alts := [], laidByText := true, laidKinds := [.data], laidTests := true, laidLooks := .later }
def FrameWalkUptoCardSaid : Prop := Claim7.holds Tryd.pinned (.plain (OpenSpec.upto frameWalkSpec)) frameWalkUptoCard

/-- THE SECOND FORM's CARD OF 'eddylaw1.FrameBurst'. -/
def frameBurstUptoCard : Claim7 := { stood := { row := frameBurstUptoRow, standIns := [], harness := (true, "82344ca2fa1b8e8eb9a9b205bcdce84c19aa1d7a6045c3e17a0761b8a2a0cafa"), looks := false }, kinds := [], alts := [], laidByText := true, laidKinds := [.data], laidTests := true, laidLooks := .later }
def FrameBurstUptoCardSaid : Prop := Claim7.holds Tryd.pinned (.plain (OpenSpec.upto frameBurstSpec)) frameBurstUptoCard

/-- THE SECOND FORM's CARD OF 'eddylaw1.FrameBack'. -/
def frameBackUptoCard : Claim7 := { stood := { row := frameBackUptoRow, standIns := [], harness := (true, "82344ca2fa1b8e8eb9a9b205bcdce84c19aa1d7a6045c3e17a0761b8a2a0cafa"), looks := false }, kinds := [], alts := [], laidByText := true, laidKinds := [.data], laidTests := true, laidLooks := .later }
def FrameBackUptoCardSaid : Prop := Claim7.holds Tryd.pinned (.plain (OpenSpec.upto frameBackSpec)) frameBackUptoCard
end Rows
end Go.Proofs.YtehmifdgfgngdaaDoor
