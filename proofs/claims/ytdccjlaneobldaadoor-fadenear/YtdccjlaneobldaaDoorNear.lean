/- levellinglaw12.FadeNear answers true. -/
import Derived.Test.YtdccjlaneobldaaDoorNearLaw
import Derived.Test.YtdccjlaneobldaaDoorLive
namespace Go.Proofs.YtdccjlaneobldaaDoor
open Go.RowKit Go.Shelf

theorem near_walk (c m t : Int) (sv : Value) (b : Nat) (w : World) (hT : Tab w) (h0 : Arg w sv) (hb : b < 18446744073709551616) :
    Calls Tryd.prog 6 #[fv c sv m t, fl b] w fun e w' => e = .returned (.bool true) ∧ Below w.heap.size w w' :=
  N.near_go live_c c m t sv b w hT h0 hb
end Go.Proofs.YtdccjlaneobldaaDoor
