/- Walks of instruction (a word's), program. -/
import Derived.Test.YtlddglhjpiahfaaGNotG
import Derived.Test.YtlddglhjpiahfaaGRefJ
import Derived.Test.YtlddglhjpiahfaaGLexD
import Derived.Test.YtlddglhjpiahfaaGCodA
import Derived.Test.YtlddglhjpiahfaaGFew
namespace Go.Proofs.Ytlddglhjpiahfaa
set_option maxRecDepth 100000
open Go.RowKit Go.Shelf Go.Sort
attribute [local go_sem] Oper.semAt_some
end Go.Proofs.Ytlddglhjpiahfaa

/- Walks of notation.From and code.From (of a lattice and a place that may be). -/
namespace Go.Proofs.Ytlddglhjpiahfaa
set_option maxRecDepth 100000
open Go.RowKit Go.Shelf Go.Sort
attribute [local go_sem] Oper.semAt_some
/-- A slice of instructions. -/
def IsIns (w : World) (B : Nat) (v : Value) (l : List Cd.In) : Prop := ∃ A c, v = .slice A l.length c ∧ Row w B A (icells l) ∧ l.length ≤ c
theorem IsIns.below {w w' : World} {B : Nat} {v : Value} {l : List Cd.In} (h : IsIns w B v l) (hb : Below B w w') : IsIns w' B v l := by
  obtain ⟨A, c, e, hr, hc⟩ := h
  exact ⟨A, c, e, hr.below hb, hc⟩
theorem IsIns.more {w : World} {B B' : Nat} {v : Value} {l : List Cd.In} (h : IsIns w B v l) (hB : B ≤ B') : IsIns w B' v l := by
  obtain ⟨A, c, e, hr, hc⟩ := h
  exact ⟨A, c, e, hr.more hB, hc⟩
theorem IsIns.nil (w : World) (B : Nat) : IsIns w B (.slice none 0 0) [] := ⟨none, 0, rfl, Row.nil, Nat.le_refl _⟩
end Go.Proofs.Ytlddglhjpiahfaa

/- Walks of Whole (of programs) and code.Parse. -/
namespace Go.Proofs.Ytlddglhjpiahfaa
set_option maxRecDepth 100000
open Go.RowKit Go.Shelf Go.Sort
attribute [local go_sem] Oper.semAt_some
end Go.Proofs.Ytlddglhjpiahfaa

/- Walk of the laws' alive. -/
namespace Go.Proofs.Ytlddglhjpiahfaa
set_option maxRecDepth 100000
open Go.RowKit Go.Shelf Go.Sort
attribute [local go_sem] Oper.semAt_some

def bNames8 : List ByteArray := [⟨#[97]⟩, ⟨#[98]⟩]
def bUp8 : List Nat := [3, 2]
theorem alive8_lat (w : World) : IsLat (((w.alloc (.cells #[.string ⟨#[97]⟩, .string ⟨#[98]⟩] 9)).alloc (.cells #[.int .u32 3, .int .u32 2] 92)).alloc (.cells #[.slice (some ⟨w.heap.size, 0, none⟩) 2 2, .slice (some ⟨w.heap.size + 1, 0, none⟩) 2 2] 25)) (w.heap.size + 3)
    (.agg #[.slice (some ⟨w.heap.size, 0, none⟩) 2 2, .slice (some ⟨w.heap.size + 1, 0, none⟩) 2 2]) bNames8 bUp8 := by
  have h0 := ((Blk.new w 9 (strs bNames8).toArray).alloc (.cells #[.int .u32 3, .int .u32 2] 92)).alloc (.cells #[.slice (some ⟨w.heap.size, 0, none⟩) 2 2, .slice (some ⟨w.heap.size + 1, 0, none⟩) 2 2] 25)
  have h1 := (Blk.new' (w.alloc (.cells (strs bNames8).toArray 9)) 92 (u32s bUp8).toArray (w.heap.size + 1) (by simp)).alloc (.cells #[.slice (some ⟨w.heap.size, 0, none⟩) 2 2, .slice (some ⟨w.heap.size + 1, 0, none⟩) 2 2] 25)
  refine ⟨⟨some ⟨w.heap.size, 0, none⟩, some ⟨w.heap.size + 1, 0, none⟩, 2, 2, rfl, h0.row.more (by omega), h1.row.more (by omega), ?_⟩, ?_, by decide, ?_⟩
  · intro k x hx
    unfold bUp8 at hx
    have := List.mem_of_getElem? hx
    simp at this
    omega
  · intro s hs
    unfold bNames8 at hs
    simp at hs
    unfold maxLen
    rcases hs with rfl | rfl <;> decide
  · intro A1 n1 c1 A2 n2 c2 he
    injection he with he
    injection he with he
    injection he with e1 he
    injection he with e2 he
    injection e1 with _ e11 e12
    injection e2 with _ e21 e22
    omega

end Go.Proofs.Ytlddglhjpiahfaa
