/- levellinglaw07.TriGets answers true. -/
import Derived.Test.YtaglfndhgdolfaaDoorGetsLaw
import Derived.Test.YtaglfndhgdolfaaDoorLive
namespace Go.Proofs.YtaglfndhgdolfaaDoor
open Go.RowKit Go.Shelf

theorem gets_walk (c m t : Int) (sv : Value) (x y : Int) (lv : Value) (w : World) (hT : Tab w) (h0 : Arg w sv) (h2 : Arg w lv) :
    Calls Tryd.prog 4 #[fv c sv m t, .agg #[.int .i64 x, .int .i64 y], lv] w fun e w' => e = .returned (.bool true) ∧ Below w.heap.size w w' :=
  gets_go live_c c m t x y sv lv w hT h0 h2
end Go.Proofs.YtaglfndhgdolfaaDoor
