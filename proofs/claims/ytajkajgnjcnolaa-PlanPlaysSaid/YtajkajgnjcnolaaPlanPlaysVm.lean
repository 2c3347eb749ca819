import Derived.Test.YtajkajgnjcnolaaPlanPlaysWm
import Derived.Test.YtajkajgnjcnolaaMo37
namespace Go.Proofs.Ytajkajgnjcnolaa
open Go.RowKit
theorem walkPlanPlays (zones size opn : Int) (a : Option Addr) (len cap : Nat) (f : Nat → Op8) (w : World) (h0 : (Lit.int .i64 zones).wf = true) (h1 : (Lit.int .i64 size).wf = true) (h2 : (Lit.int .i64 opn).wf = true) (h3 : RowOp8 w a len cap f) : Calls Try.prog 3 #[.int .i64 zones, .int .i64 size, .int .i64 opn, .slice a len cap] w fun e w' => e = .returned (.bool true) ∧ Below w.heap.size w w' :=
  walkPlanPlaysC theDrv sameOk zones size opn a len cap f w h0 h1 h2 h3
end Go.Proofs.Ytajkajgnjcnolaa

