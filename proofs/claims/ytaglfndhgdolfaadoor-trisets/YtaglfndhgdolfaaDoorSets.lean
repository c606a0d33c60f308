/- levellinglaw07.TriSets answers true. -/
import Derived.Test.YtaglfndhgdolfaaDoorSetsLaw
import Derived.Test.YtaglfndhgdolfaaDoorLive
namespace Go.Proofs.YtaglfndhgdolfaaDoor
open Go.RowKit Go.Shelf

theorem sets_walk (c m t : Int) (sv : Value) (i : Int) (lv : Value) (w : World) (hT : Tab w) (h0 : Arg w sv) (h2 : Arg w lv) :
    Calls Tryd.prog 6 #[fv c sv m t, .int .i64 i, lv] w fun e w' => e = .returned (.bool true) ∧ Below w.heap.size w w' :=
  sets_go live_c c m t i sv lv w hT h0 h2
end Go.Proofs.YtaglfndhgdolfaaDoor
