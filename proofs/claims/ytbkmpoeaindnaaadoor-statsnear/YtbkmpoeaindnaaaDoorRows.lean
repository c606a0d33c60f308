/-
  NARROWER THAN 'FOR EVERY INPUT', by the rows' own cells (each row's printed sentence says how): StatsTells: laid · StatsMiss: laid · StatsFit: laid · StatsBest: laid · StatsNear: laid · StatsSpread: laid.
  DERIVED. THE GIVEN ROWS OF THIS SEAT. 6 by the template 'for every input the law returns true; each argument reads behind the call as it read before'; 0 by the template 'total and deterministic' (their statements: YtbkmpoeaindnaaaDoorTotals.lean).
  GIVEN WITH THE SEED: the statements are not yours to turn. If you find one false, say at which input.
  Laid BY PROGRAM, IN A SANDBOX (cutbox-rows.mjs): the forced cells as the released guide's own fill.sh prints them over the translation 7fea65be34be40fc… (all of the seat's roots in one cut). By AI agents, Wed Nov 11 2026. No macro, syntax, notation, axiom, sorry.
-/
import Derived.Test.YtbkmpoeaindnaaaDoorChecked
import GoSem.Claim
import GoSem.ClaimJoined
import GoSem.ClaimMapViews
import Derived.JoinedTies
import Derived.KernelRfl
namespace Go.Proofs.YtbkmpoeaindnaaaDoor
/- THE CELL 'sum', in the pinned program and in every row, IS THE sha256 OF THE DUMP (.gsa) THAT YtbkmpoeaindnaaaDoorProg.lean LOADS. Nothing in Lean hashes anything: it is a label: what it is worth is what the hold of that sum in a sandbox is worth. -/
noncomputable def Tryd.pinned : Pinned := { name := "ytbkmpoeaindnaaadoor", sum := "7fea65be34be40fc23ae2377d1b98e1795030cc19ed39ad3437db4b888559e8f", checked := Tryd.checked }
namespace Rows
def none {H : Type} : Left H := { results := [], args := [] }

/- WHAT THE LISTED PACKAGE-LEVEL VARIABLES READ AS WHEN THE CALL BEGINS. Each datum BY PROGRAM (the guide's laid-datum.mjs) off the statement by which the dump's own 'gosem.cut.vars' lays the variable. In a bare row this is a premise. The card (YtbkmpoeaindnaaaDoorCards.lean) ties it to the program's text. -/
def laid_math_bits_deBruijn64tab {H : Type} : DataW H := .agg [.lit (.int .u8 0), .lit (.int .u8 1), .lit (.int .u8 56), .lit (.int .u8 2), .lit (.int .u8 57), .lit (.int .u8 49), .lit (.int .u8 28), .lit (.int .u8 3), .lit (.int .u8 61), .lit (.int .u8 58), .lit (.int .u8 42), .lit (.int .u8 50), .lit (.int .u8 38), .lit (.int .u8 29), .lit (.int .u8 17), .lit (.int .u8 4), .lit (.int .u8 62), .lit (.int .u8 47), .lit (.int .u8 59), .lit (.int .u8 36), .lit (.int .u8 45), .lit (.int .u8 43), .lit (.int .u8 51), .lit (.int .u8 22), .lit (.int .u8 53), .lit (.int .u8 39), .lit (.int .u8 33), .lit (.int .u8 30), .lit (.int .u8 24), .lit (.int .u8 18), .lit (.int .u8 12), .lit (.int .u8 5), .lit (.int .u8 63), .lit (.int .u8 55), .lit (.int .u8 48), .lit (.int .u8 27), .lit (.int .u8 60), .lit (.int .u8 41), .lit (.int .u8 37), .lit (.int .u8 16), .lit (.int .u8 46), .lit (.int .u8 35), .lit (.int .u8 44), .lit (.int .u8 21), .lit (.int .u8 52), .lit (.int .u8 32), .lit (.int .u8 23), .lit (.int .u8 11), .lit (.int .u8 54), .lit (.int .u8 26), .lit (.int .u8 40), .lit (.int .u8 15), .lit (.int .u8 34), .lit (.int .u8 20), .lit (.int .u8 31), .lit (.int .u8 10), .lit (.int .u8 25), .lit (.int .u8 14), .lit (.int .u8 19), .lit (.int .u8 9), .lit (.int .u8 13), .lit (.int .u8 8), .lit (.int .u8 7), .lit (.int .u8 6)]

/-- 'levellinglaw17.StatsTells': WHATEVER THE INPUT: true; the input reads as it did. -/
def statsTellsSpec : ChangeSpec := { name := "statsTells", fn := fun _ => fun
  | [d] => { results := [.lit (.bool true)], args := [d] }
  | _ => none }
def statsTellsRow : OpenClaim := { program := "ytbkmpoeaindnaaadoor", sum := "7fea65be34be40fc23ae2377d1b98e1795030cc19ed39ad3437db4b888559e8f", func := "levelling/levellinglaw17.StatsTells", spec := "statsTells", inPlace := ["math.Float64frombits", "math.Float64bits", "math.sqrt"], unfollowed := true, recurses := true, named := ["math/bits.deBruijn64tab"], apart := false, laid := [("math/bits.deBruijn64tab", laid_math_bits_deBruijn64tab)] }
def StatsTellsSaid : Prop := statsTellsRow.holds Tryd.pinned (OpenSpec.ofChange statsTellsSpec)

/-- ITS FALSE NEIGHBOUR: 'it returns false'. Refute it at one input. -/
def statsTellsWrong : ChangeSpec := { name := "statsTells", fn := fun _ => fun
  | [d] => { results := [.lit (.bool false)], args := [d] }
  | _ => none }
def StatsTellsWrongFalsely : Prop := statsTellsRow.holds Tryd.pinned (OpenSpec.ofChange statsTellsWrong)

/-- 'levellinglaw17.StatsMiss': WHATEVER THE INPUT: true; the input reads as it did. -/
def statsMissSpec : ChangeSpec := { name := "statsMiss", fn := fun _ => fun
  | [d1, d2] => { results := [.lit (.bool true)], args := [d1, d2] }
  | _ => none }
def statsMissRow : OpenClaim := { program := "ytbkmpoeaindnaaadoor", sum := "7fea65be34be40fc23ae2377d1b98e1795030cc19ed39ad3437db4b888559e8f", func := "levelling/levellinglaw17.StatsMiss", spec := "statsMiss", inPlace := ["math.Float64frombits", "math.Float64bits", "math.sqrt"], unfollowed := true, recurses := true, named := ["math/bits.deBruijn64tab"], apart := false, laid := [("math/bits.deBruijn64tab", laid_math_bits_deBruijn64tab)] }
def StatsMissSaid : Prop := statsMissRow.holds Tryd.pinned (OpenSpec.ofChange statsMissSpec)

/-- ITS FALSE NEIGHBOUR: 'it returns false'. Refute it at one input. -/
def statsMissWrong : ChangeSpec := { name := "statsMiss", fn := fun _ => fun
  | [d1, d2] => { results := [.lit (.bool false)], args := [d1, d2] }
  | _ => none }
def StatsMissWrongFalsely : Prop := statsMissRow.holds Tryd.pinned (OpenSpec.ofChange statsMissWrong)

/-- 'levellinglaw17.StatsFit': WHATEVER THE INPUT: true; the input reads as it did. -/
def statsFitSpec : ChangeSpec := { name := "statsFit", fn := fun _ => fun
  | [d] => { results := [.lit (.bool true)], args := [d] }
  | _ => none }
def statsFitRow : OpenClaim := { program := "ytbkmpoeaindnaaadoor", sum := "7fea65be34be40fc23ae2377d1b98e1795030cc19ed39ad3437db4b888559e8f", func := "levelling/levellinglaw17.StatsFit", spec := "statsFit", inPlace := ["math.Float64frombits", "math.Float64bits", "math.sqrt"], unfollowed := true, recurses := true, named := ["math/bits.deBruijn64tab"], apart := false, laid := [("math/bits.deBruijn64tab", laid_math_bits_deBruijn64tab)] }
def StatsFitSaid : Prop := statsFitRow.holds Tryd.pinned (OpenSpec.ofChange statsFitSpec)

/-- ITS FALSE NEIGHBOUR: 'it returns false'. Refute it at one input. -/
def statsFitWrong : ChangeSpec := { name := "statsFit", fn := fun _ => fun
  | [d] => { results := [.lit (.bool false)], args := [d] }
  | _ => none }
def StatsFitWrongFalsely : Prop := statsFitRow.holds Tryd.pinned (OpenSpec.ofChange statsFitWrong)

/-- 'levellinglaw17.StatsBest': WHATEVER THE INPUT: true; the input reads as it did. -/
def statsBestSpec : ChangeSpec := { name := "statsBest", fn := fun _ => fun
  | [d1, d2] => { results := [.lit (.bool true)], args := [d1, d2] }
  | _ => none }
def statsBestRow : OpenClaim := { program := "ytbkmpoeaindnaaadoor", sum := "7fea65be34be40fc23ae2377d1b98e1795030cc19ed39ad3437db4b888559e8f", func := "levelling/levellinglaw17.StatsBest", spec := "statsBest", inPlace := ["math.Float64frombits", "math.Float64bits", "math.sqrt"], unfollowed := true, recurses := true, named := ["math/bits.deBruijn64tab"], apart := false, laid := [("math/bits.deBruijn64tab", laid_math_bits_deBruijn64tab)] }
def StatsBestSaid : Prop := statsBestRow.holds Tryd.pinned (OpenSpec.ofChange statsBestSpec)

/-- ITS FALSE NEIGHBOUR: 'it returns false'. Refute it at one input. -/
def statsBestWrong : ChangeSpec := { name := "statsBest", fn := fun _ => fun
  | [d1, d2] => { results := [.lit (.bool false)], args := [d1, d2] }
  | _ => none }
def StatsBestWrongFalsely : Prop := statsBestRow.holds Tryd.pinned (OpenSpec.ofChange statsBestWrong)

/-- 'levellinglaw17.StatsNear': WHATEVER THE INPUT: true; the input reads as it did. -/
def statsNearSpec : ChangeSpec := { name := "statsNear", fn := fun _ => fun
  | [d] => { results := [.lit (.bool true)], args := [d] }
  | _ => none }
def statsNearRow : OpenClaim := { program := "ytbkmpoeaindnaaadoor", sum := "7fea65be34be40fc23ae2377d1b98e1795030cc19ed39ad3437db4b888559e8f", func := "levelling/levellinglaw17.StatsNear", spec := "statsNear", inPlace := ["math.Float64frombits", "math.Float64bits", "math.sqrt"], unfollowed := true, recurses := true, named := ["math/bits.deBruijn64tab"], apart := false, laid := [("math/bits.deBruijn64tab", laid_math_bits_deBruijn64tab)] }
def StatsNearSaid : Prop := statsNearRow.holds Tryd.pinned (OpenSpec.ofChange statsNearSpec)

/-- ITS FALSE NEIGHBOUR: 'it returns false'. Refute it at one input. -/
def statsNearWrong : ChangeSpec := { name := "statsNear", fn := fun _ => fun
  | [d] => { results := [.lit (.bool false)], args := [d] }
  | _ => none }
def StatsNearWrongFalsely : Prop := statsNearRow.holds Tryd.pinned (OpenSpec.ofChange statsNearWrong)

/-- 'levellinglaw17.StatsSpread': WHATEVER THE INPUT: true; the input reads as it did. -/
def statsSpreadSpec : ChangeSpec := { name := "statsSpread", fn := fun _ => fun
  | [d] => { results := [.lit (.bool true)], args := [d] }
  | _ => none }
def statsSpreadRow : OpenClaim := { program := "ytbkmpoeaindnaaadoor", sum := "7fea65be34be40fc23ae2377d1b98e1795030cc19ed39ad3437db4b888559e8f", func := "levelling/levellinglaw17.StatsSpread", spec := "statsSpread", inPlace := ["math.Float64frombits", "math.Float64bits", "math.sqrt"], unfollowed := true, recurses := true, named := ["math/bits.deBruijn64tab"], apart := false, laid := [("math/bits.deBruijn64tab", laid_math_bits_deBruijn64tab)] }
def StatsSpreadSaid : Prop := statsSpreadRow.holds Tryd.pinned (OpenSpec.ofChange statsSpreadSpec)

/-- ITS FALSE NEIGHBOUR: 'it returns false'. Refute it at one input. -/
def statsSpreadWrong : ChangeSpec := { name := "statsSpread", fn := fun _ => fun
  | [d] => { results := [.lit (.bool false)], args := [d] }
  | _ => none }
def StatsSpreadWrongFalsely : Prop := statsSpreadRow.holds Tryd.pinned (OpenSpec.ofChange statsSpreadWrong)

/- THE SECOND FORM. 'bulk': how many values and letters a reading holds, each counted each time it is reached (what is shared counts as often as it is met; a slice's spare places count too). A statement '..UptoSaid' is the law's where the arguments, and the package variables that the reading takes, are together of bulk at most 1048576: NARROWER than '..Said'. Prove '..Said' where nothing that the law and all that it calls make is longer than what came in: it says more and counts as full. Else prove '..UptoSaid'. A law counts once. -/
mutual
def uptoBulk {H : Type} : DataW H → Nat
  | .lit (.string bytes) => bytes.length + 1
  | .lit _ => 1
  | .nil => 1
  | .ptr d => uptoBulk d + 1
  | .slice elems spare => uptoBulkAll elems + uptoBulkAll spare + 1
  | .agg parts => uptoBulkAll parts + 1
  | .iface _ d => uptoBulk d + 1
  | .map entries => uptoBulkEntries entries + 1
  | .held _ => 1
def uptoBulkAll {H : Type} : List (DataW H) → Nat
  | [] => 0
  | d :: r => uptoBulk d + uptoBulkAll r
def uptoBulkEntries {H : Type} : List (Lit × DataW H) → Nat
  | [] => 0
  | x :: r => uptoBulkEntry x + uptoBulkEntries r
def uptoBulkEntry {H : Type} : Lit × DataW H → Nat
  | (.string bytes, d) => bytes.length + uptoBulk d + 1
  | (_, d) => uptoBulk d + 1
 end
def uptoSmall : (H : Type) → List (DataW H) → Bool := fun _ ds => decide (uptoBulkAll ds ≤ 1048576)
def OpenSpec.upto (s : _root_.Go.ChangeSpec) : _root_.Go.OpenSpec := { _root_.Go.OpenSpec.ofChange s with cond := some uptoSmall }

/-- 'levellinglaw17.StatsTells', WHERE WHAT IT READS IS OF BULK AT MOST 1048576: true; the input reads as it did. -/
def statsTellsUptoRow : OpenClaim := { program := "ytbkmpoeaindnaaadoor", sum := "7fea65be34be40fc23ae2377d1b98e1795030cc19ed39ad3437db4b888559e8f", func := "levelling/levellinglaw17.StatsTells", spec := "statsTells", inPlace := ["math.Float64frombits", "math.Float64bits", "math.sqrt"], unfollowed := true, recurses := true, named := ["math/bits.deBruijn64tab"], apart := false, laid := [("math/bits.deBruijn64tab", laid_math_bits_deBruijn64tab)], narrowed := true }
def StatsTellsUptoSaid : Prop := statsTellsUptoRow.holds Tryd.pinned (OpenSpec.upto statsTellsSpec)

/-- 'levellinglaw17.StatsMiss', WHERE WHAT IT READS IS OF BULK AT MOST 1048576: true; the input reads as it did. -/
def statsMissUptoRow : OpenClaim := { program := "ytbkmpoeaindnaaadoor", sum := "7fea65be34be40fc23ae2377d1b98e1795030cc19ed39ad3437db4b888559e8f", func := "levelling/levellinglaw17.StatsMiss", spec := "statsMiss", inPlace := ["math.Float64frombits", "math.Float64bits", "math.sqrt"], unfollowed := true, recurses := true, named := ["math/bits.deBruijn64tab"], apart := false, laid := [("math/bits.deBruijn64tab", laid_math_bits_deBruijn64tab)], narrowed := true }
def StatsMissUptoSaid : Prop := statsMissUptoRow.holds Tryd.pinned (OpenSpec.upto statsMissSpec)

/-- 'levellinglaw17.StatsFit', WHERE WHAT IT READS IS OF BULK AT MOST 1048576: true; the input reads as it did. -/
def statsFitUptoRow : OpenClaim := { program := "ytbkmpoeaindnaaadoor", sum := "7fea65be34be40fc23ae2377d1b98e1795030cc19ed39ad3437db4b888559e8f", func := "levelling/levellinglaw17.StatsFit", spec := "statsFit", inPlace := ["math.Float64frombits", "math.Float64bits", "math.sqrt"], unfollowed := true, recurses := true, named := ["math/bits.deBruijn64tab"], apart := false, laid := [("math/bits.deBruijn64tab", laid_math_bits_deBruijn64tab)], narrowed := true }
def StatsFitUptoSaid : Prop := statsFitUptoRow.holds Tryd.pinned (OpenSpec.upto statsFitSpec)

/-- 'levellinglaw17.StatsBest', WHERE WHAT IT READS IS OF BULK AT MOST 1048576: true; the input reads as it did. -/
def statsBestUptoRow : OpenClaim := { program := "ytbkmpoeaindnaaadoor", sum := "7fea65be34be40fc23ae2377d1b98e1795030cc19ed39ad3437db4b888559e8f", func := "levelling/levellinglaw17.StatsBest", spec := "statsBest", inPlace := ["math.Float64frombits", "math.Float64bits", "math.sqrt"], unfollowed := true, recurses := true, named := ["math/bits.deBruijn64tab"], apart := false, laid := [("math/bits.deBruijn64tab", laid_math_bits_deBruijn64tab)], narrowed := true }
def StatsBestUptoSaid : Prop := statsBestUptoRow.holds Tryd.pinned (OpenSpec.upto statsBestSpec)

/-- 'levellinglaw17.StatsNear', WHERE WHAT IT READS IS OF BULK AT MOST 1048576: true; the input reads as it did. -/
def statsNearUptoRow : OpenClaim := { program := "ytbkmpoeaindnaaadoor", sum := "7fea65be34be40fc23ae2377d1b98e1795030cc19ed39ad3437db4b888559e8f", func := "levelling/levellinglaw17.StatsNear", spec := "statsNear", inPlace := ["math.Float64frombits", "math.Float64bits", "math.sqrt"], unfollowed := true, recurses := true, named := ["math/bits.deBruijn64tab"], apart := false, laid := [("math/bits.deBruijn64tab", laid_math_bits_deBruijn64tab)], narrowed := true }
def StatsNearUptoSaid : Prop := statsNearUptoRow.holds Tryd.pinned (OpenSpec.upto statsNearSpec)

/-- 'levellinglaw17.StatsSpread', WHERE WHAT IT READS IS OF BULK AT MOST 1048576: true; the input reads as it did. -/
def statsSpreadUptoRow : OpenClaim := { program := "ytbkmpoeaindnaaadoor", sum := "7fea65be34be40fc23ae2377d1b98e1795030cc19ed39ad3437db4b888559e8f", func := "levelling/levellinglaw17.StatsSpread", spec := "statsSpread", inPlace := ["math.Float64frombits", "math.Float64bits", "math.sqrt"], unfollowed := true, recurses := true, named := ["math/bits.deBruijn64tab"], apart := false, laid := [("math/bits.deBruijn64tab", laid_math_bits_deBruijn64tab)], narrowed := true }
def StatsSpreadUptoSaid : Prop := statsSpreadUptoRow.holds Tryd.pinned (OpenSpec.upto statsSpreadSpec)

end Rows
end Go.Proofs.YtbkmpoeaindnaaaDoor
