/- Walks of pieces and first. -/
import Derived.Test.YtmgaaejghfgbnaaLexA
namespace Go.Proofs.Ytmgaaejghfgbnaa
set_option maxRecDepth 100000
open Go.RowKit Go.Shelf

theorem blk_at {W : World} {g : Nat} {t : TypeId} {cs : Array Value} (h : W.heap.size = g) : Blk (W.alloc (.cells cs t)) g t cs := h ▸ Blk.new W t cs
theorem seven_blks (w : World) (s1 s2 s3 s4 s5 s6 s7 : TypeId) (c1 c2 c3 c4 c5 c6 c7 : Array Value) :
    Blk (((((((w.alloc (.cells c1 s1)).alloc (.cells c2 s2)).alloc (.cells c3 s3)).alloc (.cells c4 s4)).alloc (.cells c5 s5)).alloc (.cells c6 s6)).alloc (.cells c7 s7)) w.heap.size s1 c1 ∧
    Blk (((((((w.alloc (.cells c1 s1)).alloc (.cells c2 s2)).alloc (.cells c3 s3)).alloc (.cells c4 s4)).alloc (.cells c5 s5)).alloc (.cells c6 s6)).alloc (.cells c7 s7)) (w.heap.size + 1) s2 c2 ∧
    Blk (((((((w.alloc (.cells c1 s1)).alloc (.cells c2 s2)).alloc (.cells c3 s3)).alloc (.cells c4 s4)).alloc (.cells c5 s5)).alloc (.cells c6 s6)).alloc (.cells c7 s7)) (w.heap.size + 1 + 1) s3 c3 ∧
    Blk (((((((w.alloc (.cells c1 s1)).alloc (.cells c2 s2)).alloc (.cells c3 s3)).alloc (.cells c4 s4)).alloc (.cells c5 s5)).alloc (.cells c6 s6)).alloc (.cells c7 s7)) (w.heap.size + 1 + 1 + 1) s4 c4 ∧
    Blk (((((((w.alloc (.cells c1 s1)).alloc (.cells c2 s2)).alloc (.cells c3 s3)).alloc (.cells c4 s4)).alloc (.cells c5 s5)).alloc (.cells c6 s6)).alloc (.cells c7 s7)) (w.heap.size + 1 + 1 + 1 + 1) s5 c5 ∧
    Blk (((((((w.alloc (.cells c1 s1)).alloc (.cells c2 s2)).alloc (.cells c3 s3)).alloc (.cells c4 s4)).alloc (.cells c5 s5)).alloc (.cells c6 s6)).alloc (.cells c7 s7)) (w.heap.size + 1 + 1 + 1 + 1 + 1) s6 c6 ∧
    Blk (((((((w.alloc (.cells c1 s1)).alloc (.cells c2 s2)).alloc (.cells c3 s3)).alloc (.cells c4 s4)).alloc (.cells c5 s5)).alloc (.cells c6 s6)).alloc (.cells c7 s7)) (w.heap.size + 1 + 1 + 1 + 1 + 1 + 1) s7 c7 :=
  ⟨((((((blk_at rfl).alloc _).alloc _).alloc _).alloc _).alloc _).alloc _, (((((blk_at (by simp)).alloc _).alloc _).alloc _).alloc _).alloc _, ((((blk_at (by simp)).alloc _).alloc _).alloc _).alloc _, (((blk_at (by simp)).alloc _).alloc _).alloc _, ((blk_at (by simp)).alloc _).alloc _, (blk_at (by simp)).alloc _, blk_at (by simp)⟩
end Go.Proofs.Ytmgaaejghfgbnaa
