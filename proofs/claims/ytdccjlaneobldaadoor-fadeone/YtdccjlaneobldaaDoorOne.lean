/- levellinglaw12.FadeOne answers true. -/
import Derived.Test.YtdccjlaneobldaaDoorOneLaw
import Derived.Test.YtdccjlaneobldaaDoorLive
namespace Go.Proofs.YtdccjlaneobldaaDoor
open Go.RowKit Go.Shelf

theorem one_walk (c m t : Int) (sv : Value) (w : World) (hT : Tab w) (h0 : Arg w sv) :
    Calls Tryd.prog 7 #[fv c sv m t] w fun e w' => e = .returned (.bool true) ∧ Below w.heap.size w w' :=
  one_go live_c c m t sv w hT h0
end Go.Proofs.YtdccjlaneobldaaDoor
