/- Walks of the heights: lattice.height, lattice.Height, the reference's Height. -/
import Derived.Test.YtaingkjleelbfaaRefCheck
import Derived.Test.YtaingkjleelbfaaLatOrd
namespace Go.Proofs.Ytaingkjleelbfaa
open Go.RowKit

theorem val_i64 {x y : Int} (h : x = y) : Value.int .i64 x = .int .i64 y := by rw [h]

def heightR (names : List ByteArray) (up : List Nat) (a : Int) : Nat := if labN names up a a = 0 then Lat.htS up a.toNat else 0

end Go.Proofs.Ytaingkjleelbfaa
