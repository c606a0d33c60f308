/- levellinglaw17.StatsFit answers true. -/
import Derived.Test.YtbkmpoeaindnaaaDoorFitLaw
import Derived.Test.YtbkmpoeaindnaaaDoorLive
namespace Go.Proofs.YtbkmpoeaindnaaaDoor
open Go.RowKit Go.Shelf
theorem fit_walk (c m t : Int) (sv : Value) (w : World) (hT : Tab w) (h0 : Arg w sv) :
    Calls Tryd.prog 5 #[fv c sv m t] w fun e w' => e = .returned (.bool true) ∧ Below w.heap.size w w' := fit_go live_c c m t sv w hT h0
end Go.Proofs.YtbkmpoeaindnaaaDoor
