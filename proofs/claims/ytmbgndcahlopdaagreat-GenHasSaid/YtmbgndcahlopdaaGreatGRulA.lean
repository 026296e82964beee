/- The map of words; the reader in memory: what holds of it, and what a call keeps. -/
import Derived.Deep.RegionLaw
import Derived.Maps.AppendAt
import Derived.Laws.EntriesVeiled
import Derived.BigRegion
import Derived.RangeFuncBox
import Derived.BigQuiet
import Derived.Deep.QuietTactic
import Derived.KernelRfl
import Derived.Test.YtmbgndcahlopdaaGreatGLexP
import Derived.Test.YtmbgndcahlopdaaGreatGPairs
import Derived.Test.YtmbgndcahlopdaaGreatGLexD
import Derived.Test.YtmbgndcahlopdaaGreatGMapLit
import Derived.Test.YtmbgndcahlopdaaGreatGLexA
import Derived.Test.YtmbgndcahlopdaaGreatGBase
namespace Go.Proofs.YtmbgndcahlopdaaGreat
set_option maxRecDepth 100000
open Go.RowKit Go.Shelf


def ints (l : List Int) : List Value := l.map (Value.int .i64)
theorem ints_snoc (l : List Int) (n : Int) : ints (l ++ [n]) = ints l ++ [.int .i64 n] := by simp [ints]
theorem ints_length (l : List Int) : (ints l).length = l.length := by simp [ints]
theorem Tryz.infoInt : (Tryz.prog.info? 3).map (fun i => (i.zero, i.size, i.bytes)) = some (some (.int .i64 0), 1, 8) := by kernel_rfl

end Go.Proofs.YtmbgndcahlopdaaGreat

/- Walks of the reader's small methods. -/
namespace Go.Proofs.YtmbgndcahlopdaaGreat
set_option maxRecDepth 100000
open Go.RowKit Go.Shelf

theorem cell_one_new (w : World) (t : TypeId) (u : Value) : ∀ j v, [u][j]? = some v → (w.alloc (.cells #[u] t)).drew.cell? ((⟨w.heap.size, 0, none⟩ : Addr).add j) = some v := fun j v hv => cells_new w [u] t j v hv
end Go.Proofs.YtmbgndcahlopdaaGreat

/- Walks of ofTwo and of done: a pile's last two things, and one number of a rule. -/
namespace Go.Proofs.YtmbgndcahlopdaaGreat
set_option maxRecDepth 100000
open Go.RowKit Go.Shelf

/- One number of a rule. -/
end Go.Proofs.YtmbgndcahlopdaaGreat

/- The walk of Right, and of Uses. -/
namespace Go.Proofs.YtmbgndcahlopdaaGreat
set_option maxRecDepth 100000
open Go.RowKit Go.Shelf

theorem irow_at {w : World} {B : Nat} {A : Option Addr} {l : List Int} {k : Nat} (h : Row w B A (ints l)) (hk : k < l.length) : ∃ ad, A = some ad ∧ ad.block < B ∧ w.cell? (ad.add k) = some (.int .i64 l[k]) := by
  obtain ⟨ad, e, hb, hc⟩ := h.at_ (k := k) (by rw [ints_length]; exact hk)
  exact ⟨ad, e, hb, by simpa [ints] using hc⟩
/-- A bool is answered, and old memory stays. -/
def Tells (w : World) (b : Bool) (e : Ending) (w' : World) : Prop := e = .returned (.bool b) ∧ Below w.heap.size w w'

end Go.Proofs.YtmbgndcahlopdaaGreat

/- The walk of Uses. -/
namespace Go.Proofs.YtmbgndcahlopdaaGreat
set_option maxRecDepth 100000
open Go.RowKit Go.Shelf
namespace Rl
def made (r : List Int) : Bool := right r false || right r true
end Rl
end Go.Proofs.YtmbgndcahlopdaaGreat

/- The walk of what stands between brackets. -/
namespace Go.Proofs.YtmbgndcahlopdaaGreat
set_option maxRecDepth 100000
open Go.RowKit Go.Shelf

end Go.Proofs.YtmbgndcahlopdaaGreat

/- The walk of an atom. -/
namespace Go.Proofs.YtmbgndcahlopdaaGreat
set_option maxRecDepth 100000
open Go.RowKit Go.Shelf
attribute [local go_sem] Oper.semAt_some

end Go.Proofs.YtmbgndcahlopdaaGreat

/- Walks of flow and of prim. -/
namespace Go.Proofs.YtmbgndcahlopdaaGreat
set_option maxRecDepth 100000
open Go.RowKit Go.Shelf
attribute [local go_sem] Oper.semAt_some

end Go.Proofs.YtmbgndcahlopdaaGreat

/- The walk of rows: parts with words between them. -/
namespace Go.Proofs.YtmbgndcahlopdaaGreat
set_option maxRecDepth 100000
open Go.RowKit Go.Shelf


end Go.Proofs.YtmbgndcahlopdaaGreat

/- The walks of cond and of label, by the depth; and of From. -/
namespace Go.Proofs.YtmbgndcahlopdaaGreat
set_option maxRecDepth 100000
open Go.RowKit Go.Shelf
attribute [local go_sem] Oper.semAt_some


end Go.Proofs.YtmbgndcahlopdaaGreat

/- Tables over plain data: what may be, what a text tells; what is written is read. -/
namespace Go.Proofs.YtmbgndcahlopdaaGreat
set_option maxRecDepth 100000
namespace Tb
open Lx (Tk pack)

/-- A row's rules. -/
structure PR where
  m : List Int
  r : List Int
  p : List Int
deriving DecidableEq
def PR.none : PR := ⟨[], [], []⟩
/-! What a text tells. -/
def tok (l : List Tk) (k : Nat) : Tk := l.getD k ⟨0, ByteArray.empty, 0⟩
structure St where
  pos : Nat
  rows : List PR
  had : List Bool
def start : St := ⟨0, List.replicate 13 PR.none, List.replicate 13 false⟩
/-! What is written is read. -/
/-- The last token is the end. -/
def Fine (l : List Tk) : Prop := ∃ p, l[l.length - 1]? = some ⟨0, ByteArray.empty, p⟩
end Tb
end Go.Proofs.YtmbgndcahlopdaaGreat

/- Tables over plain data: where a reading stands; what is read may be. -/
namespace Go.Proofs.YtmbgndcahlopdaaGreat
set_option maxRecDepth 100000
end Go.Proofs.YtmbgndcahlopdaaGreat

/- Two rows compared: cmp.Compare and slices.Compare at int, package draw's compare and Cmp, the reference's Cmp and Ints. -/
namespace Go.Proofs.YtmbgndcahlopdaaGreat
set_option maxRecDepth 100000
open Go.RowKit Go.Shelf
attribute [local go_sem] Oper.semAt_some

end Go.Proofs.YtmbgndcahlopdaaGreat

/- The walk of From. -/
namespace Go.Proofs.YtmbgndcahlopdaaGreat
set_option maxRecDepth 100000
open Go.RowKit Go.Shelf
attribute [local go_sem] Oper.semAt_some

end Go.Proofs.YtmbgndcahlopdaaGreat

/- Walks of the reference: two, Made, Right, Has, Uses, Same. -/
namespace Go.Proofs.YtmbgndcahlopdaaGreat
set_option maxRecDepth 100000
open Go.RowKit Go.Shelf

end Go.Proofs.YtmbgndcahlopdaaGreat

/- The walk of the reference's Made. -/
namespace Go.Proofs.YtmbgndcahlopdaaGreat
set_option maxRecDepth 100000
open Go.RowKit Go.Shelf

/-- A number is answered, and old memory stays. -/
def TellsN (w : World) (n : Int) (e : Ending) (w' : World) : Prop := e = .returned (.int .i64 n) ∧ Below w.heap.size w w'
end Go.Proofs.YtmbgndcahlopdaaGreat

/- Walks of the reference's Right, Has, Uses, Same. -/
namespace Go.Proofs.YtmbgndcahlopdaaGreat
set_option maxRecDepth 100000
open Go.RowKit Go.Shelf

end Go.Proofs.YtmbgndcahlopdaaGreat

/- Walks of the law's few and alive. -/
namespace Go.Proofs.YtmbgndcahlopdaaGreat
set_option maxRecDepth 100000
open Go.RowKit Go.Shelf

/- The law's alive. -/
end Go.Proofs.YtmbgndcahlopdaaGreat
