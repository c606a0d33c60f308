/- levellinglaw17.StatsSpread answers true. -/
import Derived.Test.YtbkmpoeaindnaaaDoorSpreadLaw
import Derived.Test.YtbkmpoeaindnaaaDoorLive
namespace Go.Proofs.YtbkmpoeaindnaaaDoor
open Go.RowKit Go.Shelf
theorem spread_walk (c m t : Int) (sv : Value) (w : World) (hT : Tab w) (h0 : Arg w sv) :
    Calls Tryd.prog 8 #[fv c sv m t] w fun e w' => e = .returned (.bool true) ∧ Below w.heap.size w w' := spread_go live_c c m t sv w hT h0
end Go.Proofs.YtbkmpoeaindnaaaDoor
