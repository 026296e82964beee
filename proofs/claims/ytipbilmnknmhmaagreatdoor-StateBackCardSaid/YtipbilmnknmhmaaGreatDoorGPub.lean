/- Walks of lattice's Flows, Join, Meet, Bottom, Top. -/
import Derived.Deep.RegionWith
import Derived.Test.YtipbilmnknmhmaaGreatDoorGOrd
import Derived.Test.YtipbilmnknmhmaaGreatDoorGLat
namespace Go.Proofs.YtipbilmnknmhmaaGreatDoor
set_option maxRecDepth 100000
open Go.RowKit

theorem checkN_zero {names : List ByteArray} {up : List Nat} (h : checkN names up = 0) : mayB names up = true ∧ Lat.isOrder up = true ∧ Lat.isLattice up = true := by
  unfold checkN at h
  cases h1 : mayB names up <;> rw [h1] at h <;> simp at h
  cases h2 : Lat.isOrder up <;> rw [h2] at h <;> simp at h
  cases h3 : Lat.isLattice up <;> rw [h3] at h <;> simp at h
  exact ⟨rfl, rfl, rfl⟩
theorem ret_ii {x y a b : Int} (h' : a = b) (h : x = y) : Ending.returned (.tuple #[.int .i64 a, .int .i64 x]) = .returned (.tuple #[.int .i64 b, .int .i64 y]) := by rw [h, h']

end Go.Proofs.YtipbilmnknmhmaaGreatDoor

/- Walks of the reference's Flows, Join, Meet. -/
namespace Go.Proofs.YtipbilmnknmhmaaGreatDoor
set_option maxRecDepth 100000
open Go.RowKit

/-- What the reference's functions ask of the world: the box, and what is below it. -/
def At (w : World) (x0 x1 : Value) (W : World) : Prop := Blk W w.heap.size 25 #[x0, x1] ∧ Below w.heap.size w W
theorem At.c0 {w : World} {x0 x1 : Value} {W : World} (h : At w x0 x1 W) : W.cell? ⟨w.heap.size, 0, none⟩ = some x0 := by rw [h.1.cell]; rfl
theorem At.c1 {w : World} {x0 x1 : Value} {W : World} (h : At w x0 x1 W) : W.cell? ⟨w.heap.size, 1, none⟩ = some x1 := by rw [h.1.cell]; rfl
theorem At.start (w : World) (x0 x1 : Value) : At w x0 x1 (w.alloc (.cells #[x0, x1] 25)) := ⟨Blk.new _ _ _, (Below.refl _ w).alloc (Nat.le_refl _) _⟩
theorem At.next {w : World} {x0 x1 : Value} {W W' : World} (h : At w x0 x1 W) (hb : Below W.heap.size W W') : At w x0 x1 W' := ⟨h.1.below hb h.1.lt, h.2.trans (hb.mono h.2.size)⟩
theorem At.lat {w : World} {x0 x1 : Value} {W : World} {v : Value} {names : List ByteArray} {up : List Nat} (h : At w x0 x1 W) (hl : IsLat w w.heap.size v names up) : IsLat W W.heap.size v names up := (hl.below h.2).more h.2.size

end Go.Proofs.YtipbilmnknmhmaaGreatDoor

/- Walk of the reference's order. -/
namespace Go.Proofs.YtipbilmnknmhmaaGreatDoor
set_option maxRecDepth 100000
open Go.RowKit

end Go.Proofs.YtipbilmnknmhmaaGreatDoor

/- Walk of the reference's may. -/
namespace Go.Proofs.YtipbilmnknmhmaaGreatDoor
set_option maxRecDepth 100000
open Go.RowKit

end Go.Proofs.YtipbilmnknmhmaaGreatDoor

/- Walks of the reference's Check, Bottom, Top, and of the law's there. -/
namespace Go.Proofs.YtipbilmnknmhmaaGreatDoor
set_option maxRecDepth 100000
open Go.RowKit

end Go.Proofs.YtipbilmnknmhmaaGreatDoor

/- Walks of the heights: lattice.height, lattice.Height, the reference's Height. -/
namespace Go.Proofs.YtipbilmnknmhmaaGreatDoor
set_option maxRecDepth 100000
open Go.RowKit

end Go.Proofs.YtipbilmnknmhmaaGreatDoor

/- The package's answers and the reference's are the same. Plain data. -/
namespace Go.Proofs.YtipbilmnknmhmaaGreatDoor
set_option maxRecDepth 100000
open Lat

/-- All rows hold bits of labels alone. -/
def Rows (up : List Nat) : Prop := ∀ a, up.getD a 0 < 2 ^ up.length

theorem all_pairs {f : Nat × Nat → Bool} {n : Nat} : (pairs n).all f = true ↔ ∀ a b, a < n → b < n → f (a, b) = true := by
  rw [List.all_eq_true]
  constructor
  · intro h a b ha hb; exact h _ (mem_pairs.2 ⟨ha, hb⟩)
  · rintro h ⟨a, b⟩ hp; exact h a b (mem_pairs.1 hp).1 (mem_pairs.1 hp).2

end Go.Proofs.YtipbilmnknmhmaaGreatDoor
