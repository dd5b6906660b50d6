/- The document's example. -/
import Derived.Test.YtbcilifdgpfmnaaDoorShaJ
namespace Go.Proofs.YtbcilifdgpfmnaaDoor
open Go.RowKit ShaMath

theorem sum_list (a : Option Addr) (n cap : Nat) (l : List ByteArray) (D : List UInt8) (w : World) (hn : l.length = n) (hD : sha (cat l) = D) (hg : Glob w) (hl : Big (n ≤ 140737488355328)) (ht : Big ((cat l).length < 100000000000)) (hr : Lies w w.heap.size a (strs l)) :
    Calls Tryd.prog 23 #[.slice a n cap] w fun e w' => e = .returned (.agg (bytes D).toArray) ∧ Below w.heap.size w w' := by
  subst hD
  exact sha_sum_any a n cap l w hn hg hl.out ht.out hr

end Go.Proofs.YtbcilifdgpfmnaaDoor
