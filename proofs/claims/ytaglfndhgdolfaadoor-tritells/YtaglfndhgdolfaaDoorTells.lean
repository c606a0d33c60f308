/- levellinglaw07.TriTells answers true. -/
import Derived.Test.YtaglfndhgdolfaaDoorTellsLaw
import Derived.Test.YtaglfndhgdolfaaDoorLive
namespace Go.Proofs.YtaglfndhgdolfaaDoor
open Go.RowKit Go.Shelf

theorem tells_walk (c m t : Int) (sv : Value) (x y z : Int) (w : World) (hT : Tab w) (h0 : Arg w sv) :
    Calls Tryd.prog 3 #[fv c sv m t, .agg #[.int .i64 x, .int .i64 y, .int .i64 z]] w fun e w' => e = .returned (.bool true) ∧ Below w.heap.size w w' :=
  tells_go live_c c m t x y z sv w hT h0
end Go.Proofs.YtaglfndhgdolfaaDoor
