/- Walks of ofTwo (by gen_sho.py). -/
import Derived.BigQuiet
import Derived.Test.YtipbilmnknmhmaaDoorGShoF
import Derived.Test.YtipbilmnknmhmaaDoorGRulB
namespace Go.Proofs.YtipbilmnknmhmaaDoor
set_option maxRecDepth 100000
open Go.RowKit Go.Shelf

/-- Two things, each in a block of its own, behind w1. -/
structure XY (w1 : World) (t : TypeId) (x y : Sh.Th) (W : World) : Prop where
  bx : Blk W w1.heap.size t #[.string x.s, .int .i64 x.b, .int .i64 x.d]
  bY : Blk W (w1.heap.size + 1) t #[.string y.s, .int .i64 y.b, .int .i64 y.d]
  below : Below w1.heap.size w1 W
section
variable {w1 W W' : World} {t : TypeId} {x y : Sh.Th}
theorem XY.start (w1 : World) (t : TypeId) (x y : Sh.Th) (n : Nat) : XY w1 t x y (((w1.alloc (.cells #[.string x.s, .int .i64 x.b, .int .i64 x.d] t)).alloc (.cells #[.string y.s, .int .i64 y.b, .int .i64 y.d] t)).drewN n) := by
  have hs : (w1.alloc (.cells #[.string x.s, .int .i64 x.b, .int .i64 x.d] t)).heap.size = w1.heap.size + 1 := by simp
  have h2 := Blk.new (w1.alloc (.cells #[.string x.s, .int .i64 x.b, .int .i64 x.d] t)) t #[.string y.s, .int .i64 y.b, .int .i64 y.d]
  rw [hs] at h2
  have hb := ((Below.refl w1.heap.size w1).alloc (Nat.le_refl _) (.cells #[.string x.s, .int .i64 x.b, .int .i64 x.d] t)).alloc (by simp) (.cells #[.string y.s, .int .i64 y.b, .int .i64 y.d] t)
  exact ⟨((Blk.new w1 t _).alloc _).drewN n, h2.drewN n, ⟨hb.os, hb.tape, hb.output, hb.size, hb.block⟩⟩
theorem XY.call (h : XY w1 t x y W) (hb : Below W.heap.size W W') : XY w1 t x y W' := ⟨h.bx.below hb h.bx.lt, h.bY.below hb h.bY.lt, h.below.trans (hb.mono h.below.size)⟩
theorem XY.drewN (h : XY w1 t x y W) (n : Nat) : XY w1 t x y (W.drewN n) := ⟨h.bx.drewN n, h.bY.drewN n, ⟨h.below.os, h.below.tape, h.below.output, h.below.size, h.below.block⟩⟩
theorem XY.setX (h : XY w1 t x y W) (z : Sh.Th) : XY w1 t z y (((W.setCell ⟨w1.heap.size, 0, none⟩ (.string z.s)).setCell ⟨w1.heap.size, 1, none⟩ (.int .i64 z.b)).setCell ⟨w1.heap.size, 2, none⟩ (.int .i64 z.d)) :=
  ⟨((h.bx.set_ 0 _).set_ 1 _).set_ 2 _, ((h.bY.other (by simp) _).other (by simp) _).other (by simp) _,
    ((h.below.setCell (p := ⟨w1.heap.size, 0, none⟩) (Nat.le_refl _) _).setCell (p := ⟨w1.heap.size, 1, none⟩) (Nat.le_refl _) _).setCell (p := ⟨w1.heap.size, 2, none⟩) (Nat.le_refl _) _⟩
theorem XY.facts (h : XY w1 t x y W) : W.cell? ⟨w1.heap.size, 0, none⟩ = some (.string x.s) ∧ W.cell? ⟨w1.heap.size, 1, none⟩ = some (.int .i64 x.b) ∧ W.cell? ⟨w1.heap.size, 2, none⟩ = some (.int .i64 x.d) ∧
    W.cell? ⟨w1.heap.size + 1, 0, none⟩ = some (.string y.s) ∧ W.cell? ⟨w1.heap.size + 1, 1, none⟩ = some (.int .i64 y.b) ∧ W.cell? ⟨w1.heap.size + 1, 2, none⟩ = some (.int .i64 y.d) ∧
    W.frozen? ⟨w1.heap.size, 0, none⟩ = false ∧ W.frozen? ⟨w1.heap.size, 1, none⟩ = false ∧ W.frozen? ⟨w1.heap.size, 2, none⟩ = false ∧ W.frozen? ⟨w1.heap.size + 1, 0, none⟩ = false ∧ W.frozen? ⟨w1.heap.size + 1, 1, none⟩ = false ∧ W.frozen? ⟨w1.heap.size + 1, 2, none⟩ = false :=
  ⟨by rw [h.bx.cell]; rfl, by rw [h.bx.cell]; rfl, by rw [h.bx.cell]; rfl, by rw [h.bY.cell]; rfl, by rw [h.bY.cell]; rfl, by rw [h.bY.cell]; rfl, h.bx.frozen _, h.bx.frozen _, h.bx.frozen _, h.bY.frozen _, h.bY.frozen _, h.bY.frozen _⟩
end

end Go.Proofs.YtipbilmnknmhmaaDoor

/- The walk of take: one number of a rule. -/
namespace Go.Proofs.YtipbilmnknmhmaaDoor
set_option maxRecDepth 100000
open Go.RowKit Go.Shelf

section
variable {R : Nat} {vc vl : Value} {cs ls : List Sh.Th}
end
end Go.Proofs.YtipbilmnknmhmaaDoor

/- Walks of take (any number), whole, sorts, and Text. -/
namespace Go.Proofs.YtipbilmnknmhmaaDoor
set_option maxRecDepth 100000
open Go.RowKit Go.Shelf

def Wrote (w : World) (r : ByteArray × Nat) (e : Ending) (w' : World) : Prop := e = .returned (.tuple #[.string r.1, .int .i64 r.2]) ∧ Below w.heap.size w w'
end Go.Proofs.YtipbilmnknmhmaaDoor
