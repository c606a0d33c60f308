/-
  DERIVED. GIVEN WITH THE SEED: THE CARDS: each row of YtaglfndhgdolfaaDoorRows.lean that lists a variable, with what it lists TIED to the program's text (the seventh form; the later family's looks); each row that meets fmt, with fmt's text TOLD by the authors' own Lean function (tested against real Go, not proved from fmt's source: count such statements apart). THE CARD IS WHAT COUNTS. Prove the row's statement (the work); the ties are given (YtaglfndhgdolfaaDoorTie.lean); close each card by the builder's one call (the guide's Derived/Test/ToyasCard.lean, 'card_holds'). Laid BY PROGRAM, IN A SANDBOX (cutbox-door.mjs). By AI agents, Wed Nov 11 2026. No macro, syntax, notation, axiom, sorry.
-/
import Derived.Test.YtaglfndhgdolfaaDoorRows
import GoSem.ClaimSeven
namespace Go.Proofs.YtaglfndhgdolfaaDoor
namespace Rows

/-- THE TIED CARD OF 'levellinglaw07.TriTells'. -/
def triTellsCard : Claim7 := { stood := { row := triTellsRow, standIns := [], harness := (true, "68a03372cf17111525031045475d34c9c7b69edc1278fe617f2e94dae4fd5c76"), looks := false }, kinds := [], alts := [], laidByText := true, laidKinds := [.data], laidTests := true, laidLooks := .later }
def TriTellsCardSaid : Prop := Claim7.holds Tryd.pinned (.plain (OpenSpec.ofChange triTellsSpec)) triTellsCard

/-- THE TIED CARD OF 'levellinglaw07.TriGets'. -/
def triGetsCard : Claim7 := { stood := { row := triGetsRow, standIns := [], harness := (true, "68a03372cf17111525031045475d34c9c7b69edc1278fe617f2e94dae4fd5c76"), looks := false }, kinds := [], alts := [], laidByText := true, laidKinds := [.data], laidTests := true, laidLooks := .later }
def TriGetsCardSaid : Prop := Claim7.holds Tryd.pinned (.plain (OpenSpec.ofChange triGetsSpec)) triGetsCard

/-- THE TIED CARD OF 'levellinglaw07.TriPlaces'. -/
def triPlacesCard : Claim7 := { stood := { row := triPlacesRow, standIns := [], harness := (true, "68a03372cf17111525031045475d34c9c7b69edc1278fe617f2e94dae4fd5c76"), looks := false }, kinds := [], alts := [], laidByText := true, laidKinds := [.data], laidTests := true, laidLooks := .later }
def TriPlacesCardSaid : Prop := Claim7.holds Tryd.pinned (.plain (OpenSpec.ofChange triPlacesSpec)) triPlacesCard

/-- THE TIED CARD OF 'levellinglaw07.TriSets'. -/
def triSetsCard : Claim7 := { stood := { row := triSetsRow, standIns := [], harness := (true, "68a03372cf17111525031045475d34c9c7b69edc1278fe617f2e94dae4fd5c76"), looks := false }, kinds := [], alts := [], laidByText := true, laidKinds := [.data], laidTests := true, laidLooks := .later }
def TriSetsCardSaid : Prop := Claim7.holds Tryd.pinned (.plain (OpenSpec.ofChange triSetsSpec)) triSetsCard

/-- THE TIED CARD OF 'levellinglaw07.TriLines'. -/
def triLinesCard : Claim7 := { stood := { row := triLinesRow, standIns := [], harness := (true, "68a03372cf17111525031045475d34c9c7b69edc1278fe617f2e94dae4fd5c76"), looks := false }, kinds := [], alts := [], laidByText := true, laidKinds := [.data], laidTests := true, laidLooks := .later }
def TriLinesCardSaid : Prop := Claim7.holds Tryd.pinned (.plain (OpenSpec.ofChange triLinesSpec)) triLinesCard

/-- THE TIED CARD OF 'levellinglaw07.TriNew'. -/
def triNewCard : Claim7 := { stood := { row := triNewRow, standIns := [], harness := (true, "68a03372cf17111525031045475d34c9c7b69edc1278fe617f2e94dae4fd5c76"), looks := false }, kinds := [], alts := [], laidByText := true, laidKinds := [.data], laidTests := true, laidLooks := .later }
def TriNewCardSaid : Prop := Claim7.holds Tryd.pinned (.plain (OpenSpec.ofChange triNewSpec)) triNewCard

/-- THE SECOND FORM's CARD OF 'levellinglaw07.TriTells'. -/
def triTellsUptoCard : Claim7 := { stood := { row := triTellsUptoRow, standIns := [], harness := (true, "68a03372cf17111525031045475d34c9c7b69edc1278fe617f2e94dae4fd5c76"), looks := false }, kinds := [], alts := [], laidByText := true, laidKinds := [.data], laidTests := true, laidLooks := .later }
def TriTellsUptoCardSaid : Prop := Claim7.holds Tryd.pinned (.plain (OpenSpec.upto triTellsSpec)) triTellsUptoCard

/-- THE SECOND FORM's CARD OF 'levellinglaw07.TriGets'. -/
def triGetsUptoCard : Claim7 := { stood := { row := triGetsUptoRow, standIns := [], harness := (true, "68a03372cf17111525031045475d34c9c7b69edc1278fe617f2e94dae4fd5c76"), looks := false }, kinds := [], alts := [], laidByText := true, laidKinds := [.data], laidTests := true, laidLooks := .later }
def TriGetsUptoCardSaid : Prop := Claim7.holds Tryd.pinned (.plain (OpenSpec.upto triGetsSpec)) triGetsUptoCard

/-- THE SECOND FORM's CARD OF 'levellinglaw07.TriPlaces'. -/
def triPlacesUptoCard : Claim7 := { stood := { row := triPlacesUptoRow, standIns := [], harness := (true, "68a03372cf17111525031045475d34c9c7b69edc1278fe617f2e94dae4fd5c76"), looks := false }, kinds := [], alts := [], laidByText := true, laidKinds := [.data], laidTests := true, laidLooks := .later }
def TriPlacesUptoCardSaid : Prop := Claim7.holds Tryd.pinned (.plain (OpenSpec.upto triPlacesSpec)) triPlacesUptoCard

/-- THE SECOND FORM's CARD OF 'levellinglaw07.TriSets'. -/
def triSetsUptoCard : Claim7 := { stood := { row := triSetsUptoRow, standIns := [], harness := (true, "68a03372cf17111525031045475d34c9c7b69edc1278fe617f2e94dae4fd5c76"), looks := false }, kinds := [], alts := [], laidByText := true, laidKinds := [.data], laidTests := true, laidLooks := .later }
def TriSetsUptoCardSaid : Prop := Claim7.holds Tryd.pinned (.plain (OpenSpec.upto triSetsSpec)) triSetsUptoCard

/-- THE SECOND FORM's CARD OF 'levellinglaw07.TriLines'. -/
def triLinesUptoCard : Claim7 := { stood := { row := triLinesUptoRow, standIns := [], harness := (true, "68a03372cf17111525031045475d34c9c7b69edc1278fe617f2e94dae4fd5c76"), looks := false }, kinds := [], alts := [], laidByText := true, laidKinds := [.data], laidTests := true, laidLooks := .later }
def TriLinesUptoCardSaid : Prop := Claim7.holds Tryd.pinned (.plain (OpenSpec.upto triLinesSpec)) triLinesUptoCard

/-- THE SECOND FORM's CARD OF 'levellinglaw07.TriNew'. -/
def triNewUptoCard : Claim7 := { stood := { row := triNewUptoRow, standIns := [], harness := (true, "68a03372cf17111525031045475d34c9c7b69edc1278fe617f2e94dae4fd5c76"), looks := false }, kinds := [], alts := [], laidByText := true, laidKinds := [.data], laidTests := true, laidLooks := .later }
def TriNewUptoCardSaid : Prop := Claim7.holds Tryd.pinned (.plain (OpenSpec.upto triNewSpec)) triNewUptoCard
end Rows
end Go.Proofs.YtaglfndhgdolfaaDoor
