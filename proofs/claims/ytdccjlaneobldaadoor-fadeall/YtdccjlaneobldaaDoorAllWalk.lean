/- levellinglaw12.FadeAll answers true. -/
import Derived.Test.YtdccjlaneobldaaDoorAllLaw
import Derived.Test.YtdccjlaneobldaaDoorLive
namespace Go.Proofs.YtdccjlaneobldaaDoor
open Go.RowKit Go.Shelf

theorem all_walk (c m t : Int) (sv lv : Value) (cut : Int) (w : World) (hT : Tab w) (h0 : Arg w sv) (h2 : Arg w lv) :
    Calls Tryd.prog 4 #[fv c sv m t, lv, .int .i64 cut] w fun e w' => e = .returned (.bool true) ∧ Below w.heap.size w w' :=
  all_go live_c c m t sv lv cut w hT h0 h2
end Go.Proofs.YtdccjlaneobldaaDoor
