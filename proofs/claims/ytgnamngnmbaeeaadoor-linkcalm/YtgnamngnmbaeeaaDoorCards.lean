/-
  DERIVED. GIVEN WITH THE SEED: THE CARDS: each row of YtgnamngnmbaeeaaDoorRows.lean that lists a variable, with what it lists TIED to the program's text (the seventh form; the later family's looks); each row that meets fmt, with fmt's text TOLD by the authors' own Lean function (tested against real Go, not proved from fmt's source: count such statements apart). THE CARD IS WHAT COUNTS. Prove the row's statement (the work); the ties are given (YtgnamngnmbaeeaaDoorTie.lean); close each card by the builder's one call (the guide's Derived/Test/ToyasCard.lean, 'card_holds'). Laid BY PROGRAM, IN A SANDBOX (cutbox-door.mjs). By AI agents, Wed Nov 11 2026. No macro, syntax, notation, axiom, sorry.
-/
import Derived.Test.YtgnamngnmbaeeaaDoorRows
import GoSem.ClaimSeven
namespace Go.Proofs.YtgnamngnmbaeeaaDoor
namespace Rows

/-- THE TIED CARD OF 'eddylaw21.LinkOrder'. -/
def linkOrderCard : Claim7 := { stood := { row := linkOrderRow, standIns := [], harness := (true, "340ce1a5c3f091e2b8631ec49132f8b8b6e210696073d1490566b55944a1f47b"), looks := false }, kinds := [], alts := [], laidByText := true, laidKinds := [.data], laidTests := true, laidLooks := .later }
def LinkOrderCardSaid : Prop := Claim7.holds Tryd.pinned (.plain (OpenSpec.ofChange linkOrderSpec)) linkOrderCard

/-- THE TIED CARD OF 'eddylaw21.LinkAll'. -/
def linkAllCard : Claim7 := { stood := { row := linkAllRow, standIns := [], harness := (true, "340ce1a5c3f091e2b8631ec49132f8b8b6e210696073d1490566b55944a1f47b"), looks := false }, kinds := [], alts := [], laidByText := true, laidKinds := [.data], laidTests := true, laidLooks := .later }
def LinkAllCardSaid : Prop := Claim7.holds Tryd.pinned (.plain (OpenSpec.ofChange linkAllSpec)) linkAllCard

/-- THE TIED CARD OF 'eddylaw21.LinkCalm'. -/
def linkCalmCard : Claim7 := { stood := { row := linkCalmRow, standIns := [], harness := (true, "340ce1a5c3f091e2b8631ec49132f8b8b6e210696073d1490566b55944a1f47b"), looks := false }, kinds := [], alts := [], laidByText := true, laidKinds := [.data], laidTests := true, laidLooks := .later }
def LinkCalmCardSaid : Prop := Claim7.holds Tryd.pinned (.plain (OpenSpec.ofChange linkCalmSpec)) linkCalmCard

/-- THE TIED CARD OF 'eddylaw21.LinkTwice'. -/
def linkTwiceCard : Claim7 := { stood := { row := linkTwiceRow, standIns := [], harness := (true, "340ce1a5c3f091e2b8631ec49132f8b8b6e210696073d1490566b55944a1f47b"), looks := false }, kinds := [], alts := [], laidByText := true, laidKinds := [.data], laidTests := true, laidLooks := .later }
def LinkTwiceCardSaid : Prop := Claim7.holds Tryd.pinned (.plain (OpenSpec.ofChange linkTwiceSpec)) linkTwiceCard

/-- THE SECOND FORM's CARD OF 'eddylaw21.LinkOrder'. -/
def linkOrderUptoCard : Claim7 := { stood := { row := linkOrderUptoRow, standIns := [], harness := (true, "340ce1a5c3f091e2b8631ec49132f8b8b6e210696073d1490566b55944a1f47b"), looks := false }, kinds := [], alts := [], laidByText := true, laidKinds := [.data], laidTests := true, laidLooks := .later }
def LinkOrderUptoCardSaid : Prop := Claim7.holds Tryd.pinned (.plain (OpenSpec.upto linkOrderSpec)) linkOrderUptoCard

/-- THE SECOND FORM's CARD OF 'eddylaw21.LinkAll'. -/
def linkAllUptoCard : Claim7 := { stood := { row := linkAllUptoRow, standIns := [], harness := (true, "340ce1a5c3f091e2b8631ec49132f8b8b6e210696073d1490566b55944a1f47b"), looks := false }, kinds := [], alts := [], laidByText := true, laidKinds := [.data], laidTests := true, laidLooks := .later }
def LinkAllUptoCardSaid : Prop := Claim7.holds Tryd.pinned (.plain (OpenSpec.upto linkAllSpec)) linkAllUptoCard

/-- THE SECOND FORM's CARD OF 'eddylaw21.LinkCalm'. -/
def linkCalmUptoCard : Claim7 := { stood := { row := linkCalmUptoRow, standIns := [], harness := (true, "340ce1a5c3f091e2b8631ec49132f8b8b6e210696073d1490566b55944a1f47b"), looks := false }, kinds := [], alts := [], laidByText := true, laidKinds := [.data], laidTests := true, laidLooks := .later }
def LinkCalmUptoCardSaid : Prop := Claim7.holds Tryd.pinned (.plain (OpenSpec.upto linkCalmSpec)) linkCalmUptoCard

/-- THE SECOND FORM's CARD OF 'eddylaw21.LinkTwice'. -/
def linkTwiceUptoCard : Claim7 := { stood := { row := linkTwiceUptoRow, standIns := [], harness := (true, "340ce1a5c3f091e2b8631ec49132f8b8b6e210696073d1490566b55944a1f47b"), looks := false }, kinds := [], alts := [], laidByText := true, laidKinds := [.data], laidTests := true, laidLooks := .later }
def LinkTwiceUptoCardSaid : Prop := Claim7.holds Tryd.pinned (.plain (OpenSpec.upto linkTwiceSpec)) linkTwiceUptoCard
end Rows
end Go.Proofs.YtgnamngnmbaeeaaDoor
