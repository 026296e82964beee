/- Walks of the law's few and alive. -/
import Derived.KernelRfl
import Derived.Test.YtipbilmnknmhmaaDoorGRulD
import Derived.Test.YtipbilmnknmhmaaDoorGLexD
namespace Go.Proofs.YtipbilmnknmhmaaDoor
set_option maxRecDepth 100000
open Go.RowKit Go.Shelf

def FewR (w : World) (v : Value) (l : List Lx.Tk) (wr : World) : Prop := wr.ownsRow w.heap.size 50 3 v l.length (tcells l) ∧ Below w.heap.size w wr
theorem FewR.step {w : World} {v v' : Value} {l : List Lx.Tk} {t : Lx.Tk} {wr w' : World} {o o2 : Obj} (h : FewR w v l wr) (hown : w'.ownsRow w.heap.size 50 3 v' (l.length + 1) (tcells l ++ [.int .i64 t.kind, .string t.text, .int .i64 t.pos]))
    (hg : ((wr.alloc o).alloc o2).grownBy w' v.ownBlock) : FewR w v' (l ++ [t]) w' := by
  obtain ⟨h1, h2⟩ := h
  refine ⟨?_, ?_⟩
  · rw [tcells_snoc, List.length_append]; exact hown
  · have := h2.size
    exact ((h2.alloc h2.size o).alloc (by simp; omega) o2).grown hg (by simp; omega) (fun k he => (h1.lt k he).1)
/- The law's alive. -/
end Go.Proofs.YtipbilmnknmhmaaDoor
