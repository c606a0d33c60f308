/-
  DERIVED. GIVEN WITH THE SEED: THE CARDS: each row of YtbkmpoeaindnaaaDoorRows.lean that lists a variable, with what it lists TIED to the program's text (the seventh form; the later family's looks); each row that meets fmt, with fmt's text TOLD by the authors' own Lean function (tested against real Go, not proved from fmt's source: count such statements apart). THE CARD IS WHAT COUNTS. Prove the row's statement (the work); the ties are given (YtbkmpoeaindnaaaDoorTie.lean); close each card by the builder's one call (the guide's Derived/Test/ToyasCard.lean, 'card_holds'). Laid BY PROGRAM, IN A SANDBOX (cutbox-door.mjs). By AI agents, Wed Nov 11 2026. No macro, syntax, notation, axiom, sorry.
-/
import Derived.Test.YtbkmpoeaindnaaaDoorRows
import GoSem.ClaimSeven
namespace Go.Proofs.YtbkmpoeaindnaaaDoor
namespace Rows

/-- THE TIED CARD OF 'levellinglaw17.StatsTells'. -/
def statsTellsCard : Claim7 := { stood := { row := statsTellsRow, standIns := [], harness := (true, "260e32a6289bdca4155adb602714329a5369e73d7f4e8bae62f3cc4101bdc364"), looks := false }, kinds := [], alts := [], laidByText := true, laidKinds := [.data], laidTests := true, laidLooks := .later }
def StatsTellsCardSaid : Prop := Claim7.holds Tryd.pinned (.plain (OpenSpec.ofChange statsTellsSpec)) statsTellsCard

/-- THE TIED CARD OF 'levellinglaw17.StatsMiss'. -/
def statsMissCard : Claim7 := { stood := { row := statsMissRow, standIns := [], harness := (true, "260e32a6289bdca4155adb602714329a5369e73d7f4e8bae62f3cc4101bdc364"), looks := false }, kinds := [], alts := [], laidByText := true, laidKinds := [.data], laidTests := true, laidLooks := .later }
def StatsMissCardSaid : Prop := Claim7.holds Tryd.pinned (.plain (OpenSpec.ofChange statsMissSpec)) statsMissCard

/-- THE TIED CARD OF 'levellinglaw17.StatsFit'. -/
def statsFitCard : Claim7 := { stood := { row := statsFitRow, standIns := [], harness := (true, "260e32a6289bdca4155adb602714329a5369e73d7f4e8bae62f3cc4101bdc364"), looks := false }, kinds := [], alts := [], laidByText := true, laidKinds := [.data], laidTests := true, laidLooks := .later }
def StatsFitCardSaid : Prop := Claim7.holds Tryd.pinned (.plain (OpenSpec.ofChange statsFitSpec)) statsFitCard

/-- THE TIED CARD OF 'levellinglaw17.StatsBest'. -/
def statsBestCard : Claim7 := { stood := { row := statsBestRow, standIns := [], harness := (true, "260e32a6289bdca4155adb602714329a5369e73d7f4e8bae62f3cc4101bdc364"), looks := false }, kinds := [], alts := [], laidByText := true, laidKinds := [.data], laidTests := true, laidLooks := .later }
def StatsBestCardSaid : Prop := Claim7.holds Tryd.pinned (.plain (OpenSpec.ofChange statsBestSpec)) statsBestCard

/-- THE TIED CARD OF 'levellinglaw17.StatsNear'. -/
def statsNearCard : Claim7 := { stood := { row := statsNearRow, standIns := [], harness := (true, "260e32a6289bdca4155adb602714329a5369e73d7f4e8bae62f3cc4101bdc364"), looks := false }, kinds := [], alts := [], laidByText := true, laidKinds := [.data], laidTests := true, laidLooks := .later }
def StatsNearCardSaid : Prop := Claim7.holds Tryd.pinned (.plain (OpenSpec.ofChange statsNearSpec)) statsNearCard

/-- THE TIED CARD OF 'levellinglaw17.StatsSpread'. -/
def statsSpreadCard : Claim7 := { stood := { row := statsSpreadRow, standIns := [], harness := (true, "260e32a6289bdca4155adb602714329a5369e73d7f4e8bae62f3cc4101bdc364"), looks := false }, kinds := [], alts := [], laidByText := true, laidKinds := [.data], laidTests := true, laidLooks := .later }
def StatsSpreadCardSaid : Prop := Claim7.holds Tryd.pinned (.plain (OpenSpec.ofChange statsSpreadSpec)) statsSpreadCard

/-- THE SECOND FORM's CARD OF 'levellinglaw17.StatsTells'. -/
def statsTellsUptoCard : Claim7 := { stood := { row := statsTellsUptoRow, standIns := [], harness := (true, "260e32a6289bdca4155adb602714329a5369e73d7f4e8bae62f3cc4101bdc364"), looks := false }, kinds := [], alts := [], laidByText := true, laidKinds := [.data], laidTests := true, laidLooks := .later }
def StatsTellsUptoCardSaid : Prop := Claim7.holds Tryd.pinned (.plain (OpenSpec.upto statsTellsSpec)) statsTellsUptoCard

/-- THE SECOND FORM's CARD OF 'levellinglaw17.StatsMiss'. -/
def statsMissUptoCard : Claim7 := { stood := { row := statsMissUptoRow, standIns := [], harness := (true, "260e32a6289bdca4155adb602714329a5369e73d7f4e8bae62f3cc4101bdc364"), looks := false }, kinds := [], alts := [], laidByText := true, laidKinds := [.data], laidTests := true, laidLooks := .later }
def StatsMissUptoCardSaid : Prop := Claim7.holds Tryd.pinned (.plain (OpenSpec.upto statsMissSpec)) statsMissUptoCard

/-- THE SECOND FORM's CARD OF 'levellinglaw17.StatsFit'. -/
def statsFitUptoCard : Claim7 := { stood := { row := statsFitUptoRow, standIns := [], harness := (true, "260e32a6289bdca4155adb602714329a5369e73d7f4e8bae62f3cc4101bdc364"), looks := false }, kinds := [], alts := [], laidByText := true, laidKinds := [.data], laidTests := true, laidLooks := .later }
def StatsFitUptoCardSaid : Prop := Claim7.holds Tryd.pinned (.plain (OpenSpec.upto statsFitSpec)) statsFitUptoCard

/-- THE SECOND FORM's CARD OF 'levellinglaw17.StatsBest'. -/
def statsBestUptoCard : Claim7 := { stood := { row := statsBestUptoRow, standIns := [], harness := (true, "260e32a6289bdca4155adb602714329a5369e73d7f4e8bae62f3cc4101bdc364"), looks := false }, kinds := [], alts := [], laidByText := true, laidKinds := [.data], laidTests := true, laidLooks := .later }
def StatsBestUptoCardSaid : Prop := Claim7.holds Tryd.pinned (.plain (OpenSpec.upto statsBestSpec)) statsBestUptoCard

/-- THE SECOND FORM's CARD OF 'levellinglaw17.StatsNear'. -/
def statsNearUptoCard : Claim7 := { stood := { row := statsNearUptoRow, standIns := [], harness := (true, "260e32a6289bdca4155adb602714329a5369e73d7f4e8bae62f3cc4101bdc364"), looks := false }, kinds := [], alts := [], laidByText := true, laidKinds := [.data], laidTests := true, laidLooks := .later }
def StatsNearUptoCardSaid : Prop := Claim7.holds Tryd.pinned (.plain (OpenSpec.upto statsNearSpec)) statsNearUptoCard

/-- THE SECOND FORM's CARD OF 'levellinglaw17.StatsSpread'. -/
def statsSpreadUptoCard : Claim7 := { stood := { row := statsSpreadUptoRow, standIns := [], harness := (true, "260e32a6289bdca4155adb602714329a5369e73d7f4e8bae62f3cc4101bdc364"), looks := false }, kinds := [], alts := [], laidByText := true, laidKinds := [.data], laidTests := true, laidLooks := .later }
def StatsSpreadUptoCardSaid : Prop := Claim7.holds Tryd.pinned (.plain (OpenSpec.upto statsSpreadSpec)) statsSpreadUptoCard
end Rows
end Go.Proofs.YtbkmpoeaindnaaaDoor
