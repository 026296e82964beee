/- Walks of lattice's Flows, Join, Meet, Bottom, Top. -/
import Derived.Deep.RegionWith
import Derived.Test.YtmbgndcahlopdaaGOrd
import Derived.Test.YtmbgndcahlopdaaGLat
namespace Go.Proofs.Ytmbgndcahlopdaa
set_option maxRecDepth 100000
open Go.RowKit

theorem checkN_zero {names : List ByteArray} {up : List Nat} (h : checkN names up = 0) : mayB names up = true ∧ Lat.isOrder up = true ∧ Lat.isLattice up = true := by
  unfold checkN at h
  cases h1 : mayB names up <;> rw [h1] at h <;> simp at h
  cases h2 : Lat.isOrder up <;> rw [h2] at h <;> simp at h
  cases h3 : Lat.isLattice up <;> rw [h3] at h <;> simp at h
  exact ⟨rfl, rfl, rfl⟩
theorem len_of_checkN {names : List ByteArray} {up : List Nat} (h : checkN names up = 0) : 1 ≤ up.length ∧ up.length ≤ 8 := by
  have := mayB_len (checkN_zero h).1
  exact ⟨this.1, this.2.1⟩

end Go.Proofs.Ytmbgndcahlopdaa

/- Walks of the reference's Flows, Join, Meet. -/
namespace Go.Proofs.Ytmbgndcahlopdaa
set_option maxRecDepth 100000
open Go.RowKit

/-- What the reference's functions ask of the world: the box, and what is below it. -/
def At (w : World) (x0 x1 : Value) (W : World) : Prop := Blk W w.heap.size 25 #[x0, x1] ∧ Below w.heap.size w W
end Go.Proofs.Ytmbgndcahlopdaa

/- Walk of the reference's order. -/
namespace Go.Proofs.Ytmbgndcahlopdaa
set_option maxRecDepth 100000
open Go.RowKit

end Go.Proofs.Ytmbgndcahlopdaa

/- Walk of the reference's may. -/
namespace Go.Proofs.Ytmbgndcahlopdaa
set_option maxRecDepth 100000
open Go.RowKit

end Go.Proofs.Ytmbgndcahlopdaa

/- Walks of the reference's Check, Bottom, Top, and of the law's there. -/
namespace Go.Proofs.Ytmbgndcahlopdaa
set_option maxRecDepth 100000
open Go.RowKit

end Go.Proofs.Ytmbgndcahlopdaa

/- Walks of the heights: lattice.height, lattice.Height, the reference's Height. -/
namespace Go.Proofs.Ytmbgndcahlopdaa
set_option maxRecDepth 100000
open Go.RowKit

end Go.Proofs.Ytmbgndcahlopdaa

/- The package's answers and the reference's are the same. Plain data. -/
namespace Go.Proofs.Ytmbgndcahlopdaa
set_option maxRecDepth 100000
open Lat

/-- All rows hold bits of labels alone. -/
def Rows (up : List Nat) : Prop := ∀ a, up.getD a 0 < 2 ^ up.length

end Go.Proofs.Ytmbgndcahlopdaa
