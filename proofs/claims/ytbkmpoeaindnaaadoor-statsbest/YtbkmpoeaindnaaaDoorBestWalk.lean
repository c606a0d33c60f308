/- levellinglaw17.StatsBest answers true. -/
import Derived.Test.YtbkmpoeaindnaaaDoorBestLaw
import Derived.Test.YtbkmpoeaindnaaaDoorLive
namespace Go.Proofs.YtbkmpoeaindnaaaDoor
open Go.RowKit Go.Shelf
theorem best_walk (c m t : Int) (sv lv : Value) (w : World) (hT : Tab w) (h0 : Arg w sv) (h2 : Arg w lv) :
    Calls Tryd.prog 6 #[fv c sv m t, lv] w fun e w' => e = .returned (.bool true) ∧ Below w.heap.size w w' := best_go live_c c m t sv lv w hT h0 h2
end Go.Proofs.YtbkmpoeaindnaaaDoor
