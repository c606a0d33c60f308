/-
  DERIVED. GIVEN WITH THE SEED: THE CARDS: each row of YtdccjlaneobldaaDoorRows.lean that lists a variable, with what it lists TIED to the program's text (the seventh form; the later family's looks); each row that meets fmt, with fmt's text TOLD by the authors' own Lean function (tested against real Go, not proved from fmt's source: count such statements apart). THE CARD IS WHAT COUNTS. Prove the row's statement (the work); the ties are given (YtdccjlaneobldaaDoorTie.lean); close each card by the builder's one call (the guide's Derived/Test/ToyasCard.lean, 'card_holds'). Laid BY PROGRAM, IN A SANDBOX (cutbox-door.mjs). By AI agents, Wed Nov 11 2026. No macro, syntax, notation, axiom, sorry.
-/
import Derived.Test.YtdccjlaneobldaaDoorRows
import GoSem.ClaimSeven
namespace Go.Proofs.YtdccjlaneobldaaDoor
namespace Rows

/-- THE TIED CARD OF 'levellinglaw12.FadeTells'. -/
def fadeTellsCard : Claim7 := { stood := { row := fadeTellsRow, standIns := [], harness := (true, "1afbf9c6c53b9f2526eb591f72b2be51812519fcb4baa8efbd9a954ee0671377"), looks := false }, kinds := [], alts := [], laidByText := true, laidKinds := [.data], laidTests := true, laidLooks := .later }
def FadeTellsCardSaid : Prop := Claim7.holds Tryd.pinned (.plain (OpenSpec.ofChange fadeTellsSpec)) fadeTellsCard

/-- THE TIED CARD OF 'levellinglaw12.FadeAll'. -/
def fadeAllCard : Claim7 := { stood := { row := fadeAllRow, standIns := [], harness := (true, "1afbf9c6c53b9f2526eb591f72b2be51812519fcb4baa8efbd9a954ee0671377"), looks := false }, kinds := [], alts := [], laidByText := true, laidKinds := [.data], laidTests := true, laidLooks := .later }
def FadeAllCardSaid : Prop := Claim7.holds Tryd.pinned (.plain (OpenSpec.ofChange fadeAllSpec)) fadeAllCard

/-- THE TIED CARD OF 'levellinglaw12.FadeMay'. -/
def fadeMayCard : Claim7 := { stood := { row := fadeMayRow, standIns := [], harness := (true, "1afbf9c6c53b9f2526eb591f72b2be51812519fcb4baa8efbd9a954ee0671377"), looks := false }, kinds := [], alts := [], laidByText := true, laidKinds := [.data], laidTests := true, laidLooks := .later }
def FadeMayCardSaid : Prop := Claim7.holds Tryd.pinned (.plain (OpenSpec.ofChange fadeMaySpec)) fadeMayCard

/-- THE TIED CARD OF 'levellinglaw12.FadeNear'. -/
def fadeNearCard : Claim7 := { stood := { row := fadeNearRow, standIns := [], harness := (true, "1afbf9c6c53b9f2526eb591f72b2be51812519fcb4baa8efbd9a954ee0671377"), looks := false }, kinds := [], alts := [], laidByText := true, laidKinds := [.data], laidTests := true, laidLooks := .later }
def FadeNearCardSaid : Prop := Claim7.holds Tryd.pinned (.plain (OpenSpec.ofChange fadeNearSpec)) fadeNearCard

/-- THE TIED CARD OF 'levellinglaw12.FadeOne'. -/
def fadeOneCard : Claim7 := { stood := { row := fadeOneRow, standIns := [], harness := (true, "1afbf9c6c53b9f2526eb591f72b2be51812519fcb4baa8efbd9a954ee0671377"), looks := false }, kinds := [], alts := [], laidByText := true, laidKinds := [.data], laidTests := true, laidLooks := .later }
def FadeOneCardSaid : Prop := Claim7.holds Tryd.pinned (.plain (OpenSpec.ofChange fadeOneSpec)) fadeOneCard

/-- THE SECOND FORM's CARD OF 'levellinglaw12.FadeTells'. -/
def fadeTellsUptoCard : Claim7 := { stood := { row := fadeTellsUptoRow, standIns := [], harness := (true, "1afbf9c6c53b9f2526eb591f72b2be51812519fcb4baa8efbd9a954ee0671377"), looks := false }, kinds := [], alts := [], laidByText := true, laidKinds := [.data], laidTests := true, laidLooks := .later }
def FadeTellsUptoCardSaid : Prop := Claim7.holds Tryd.pinned (.plain (OpenSpec.upto fadeTellsSpec)) fadeTellsUptoCard

/-- THE SECOND FORM's CARD OF 'levellinglaw12.FadeAll'. -/
def fadeAllUptoCard : Claim7 := { stood := { row := fadeAllUptoRow, standIns := [], harness := (true, "1afbf9c6c53b9f2526eb591f72b2be51812519fcb4baa8efbd9a954ee0671377"), looks := false }, kinds := [], alts := [], laidByText := true, laidKinds := [.data], laidTests := true, laidLooks := .later }
def FadeAllUptoCardSaid : Prop := Claim7.holds Tryd.pinned (.plain (OpenSpec.upto fadeAllSpec)) fadeAllUptoCard

/-- THE SECOND FORM's CARD OF 'levellinglaw12.FadeMay'. -/
def fadeMayUptoCard : Claim7 := { stood := { row := fadeMayUptoRow, standIns := [], harness := (true, "1afbf9c6c53b9f2526eb591f72b2be51812519fcb4baa8efbd9a954ee0671377"), looks := false }, kinds := [], alts := [], laidByText := true, laidKinds := [.data], laidTests := true, laidLooks := .later }
def FadeMayUptoCardSaid : Prop := Claim7.holds Tryd.pinned (.plain (OpenSpec.upto fadeMaySpec)) fadeMayUptoCard

/-- THE SECOND FORM's CARD OF 'levellinglaw12.FadeNear'. -/
def fadeNearUptoCard : Claim7 := { stood := { row := fadeNearUptoRow, standIns := [], harness := (true, "1afbf9c6c53b9f2526eb591f72b2be51812519fcb4baa8efbd9a954ee0671377"), looks := false }, kinds := [], alts := [], laidByText := true, laidKinds := [.data], laidTests := true, laidLooks := .later }
def FadeNearUptoCardSaid : Prop := Claim7.holds Tryd.pinned (.plain (OpenSpec.upto fadeNearSpec)) fadeNearUptoCard

/-- THE SECOND FORM's CARD OF 'levellinglaw12.FadeOne'. -/
def fadeOneUptoCard : Claim7 := { stood := { row := fadeOneUptoRow, standIns := [], harness := (true, "1afbf9c6c53b9f2526eb591f72b2be51812519fcb4baa8efbd9a954ee0671377"), looks := false }, kinds := [], alts := [], laidByText := true, laidKinds := [.data], laidTests := true, laidLooks := .later }
def FadeOneUptoCardSaid : Prop := Claim7.holds Tryd.pinned (.plain (OpenSpec.upto fadeOneSpec)) fadeOneUptoCard
end Rows
end Go.Proofs.YtdccjlaneobldaaDoor
