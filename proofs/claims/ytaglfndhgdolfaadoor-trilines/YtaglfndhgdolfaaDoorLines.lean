/- levellinglaw07.TriLines answers true. -/
import Derived.Test.YtaglfndhgdolfaaDoorLinesLaw
import Derived.Test.YtaglfndhgdolfaaDoorLive
namespace Go.Proofs.YtaglfndhgdolfaaDoor
open Go.RowKit Go.Shelf

theorem lines_walk (c m t : Int) (sv : Value) (half : Int) (w : World) (hT : Tab w) (h0 : Arg w sv) :
    Calls Tryd.prog 7 #[fv c sv m t, .int .i64 half] w fun e w' => e = .returned (.bool true) ∧ Below w.heap.size w w' :=
  lines_go live_c c m t half sv w hT h0
end Go.Proofs.YtaglfndhgdolfaaDoor
