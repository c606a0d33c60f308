/- levellinglaw12.FadeTells answers true. -/
import Derived.Test.YtdccjlaneobldaaDoorTellsLaw
import Derived.Test.YtdccjlaneobldaaDoorLive
namespace Go.Proofs.YtdccjlaneobldaaDoor
open Go.RowKit Go.Shelf

theorem tells_walk (c m t : Int) (sv : Value) (b : Nat) (k : Int) (w : World) (hT : Tab w) (h0 : Arg w sv) (hb : b < 18446744073709551616) :
    Calls Tryd.prog 3 #[fv c sv m t, fl b, .int .i64 k] w fun e w' => e = .returned (.bool true) ∧ Below w.heap.size w w' :=
  tells_go live_c c m t sv b k w hT h0 hb
end Go.Proofs.YtdccjlaneobldaaDoor
