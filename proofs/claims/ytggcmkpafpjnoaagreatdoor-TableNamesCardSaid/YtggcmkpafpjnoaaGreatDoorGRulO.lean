/- Walks of the law's few and alive. -/
import Derived.KernelRfl
import Derived.Test.YtggcmkpafpjnoaaGreatDoorGRulD
import Derived.Test.YtggcmkpafpjnoaaGreatDoorGLexD
namespace Go.Proofs.YtggcmkpafpjnoaaGreatDoor
set_option maxRecDepth 100000
open Go.RowKit Go.Shelf

def cutR (t : Lx.Tk) : Lx.Tk := ⟨t.kind, t.text.extract 0 (min t.text.size 20), t.pos⟩
def fewR (l : List Lx.Tk) : List Lx.Tk := (l.take 150).map cutR
theorem fewR_length (l : List Lx.Tk) : (fewR l).length = min l.length 150 := by unfold fewR; rw [List.length_map, List.length_take, Nat.min_comm]
theorem fewR_take {l : List Lx.Tk} {k : Nat} {t : Lx.Tk} (h : l[k]? = some t) (hk : k < min l.length 150) : (fewR l).take (k + 1) = (fewR l).take k ++ [cutR t] := by
  rw [List.take_add_one]
  congr 1
  unfold fewR
  rw [List.getElem?_map, List.getElem?_take, if_pos (by omega), h]
  rfl
theorem cells_newR {w : World} {g : Nat} (xs : List Value) (t : TypeId) (h : w.heap.size = g) : ∀ j u, xs[j]? = some u → (w.alloc (.cells xs.toArray t)).cell? ((⟨g, 0, none⟩ : Addr).add j) = some u := h ▸ cells_new w xs t
def FewR (w : World) (v : Value) (l : List Lx.Tk) (wr : World) : Prop := wr.ownsRow w.heap.size 57 3 v l.length (tcells l) ∧ Below w.heap.size w wr
theorem FewR.step {w : World} {v v' : Value} {l : List Lx.Tk} {t : Lx.Tk} {wr w' : World} {o o2 : Obj} (h : FewR w v l wr) (hown : w'.ownsRow w.heap.size 57 3 v' (l.length + 1) (tcells l ++ [.int .i64 t.kind, .string t.text, .int .i64 t.pos]))
    (hg : ((wr.alloc o).alloc o2).grownBy w' v.ownBlock) : FewR w v' (l ++ [t]) w' := by
  obtain ⟨h1, h2⟩ := h
  refine ⟨?_, ?_⟩
  · rw [tcells_snoc, List.length_append]; exact hown
  · have := h2.size
    exact ((h2.alloc h2.size o).alloc (by simp; omega) o2).grown hg (by simp; omega) (fun k he => (h1.lt k he).1)
/-- What few answers. -/
def FewRes (w : World) (l : List Lx.Tk) (e : Ending) (w' : World) : Prop := ∃ v, e = .returned v ∧ IsToks w' w'.heap.size v l ∧ Below w.heap.size w w'
/- The law's alive. -/
def aliveRS : List UInt8 := [111, 110, 101, 32, 106, 111, 105, 110, 32, 116, 119, 111, 32, 60, 61, 32, 112, 99]
def aliveRL : List Lx.Tk := [⟨1, Lx.pack [111, 110, 101], (0 : Nat)⟩, ⟨1, Lx.pack [106, 111, 105, 110], (4 : Nat)⟩, ⟨1, Lx.pack [116, 119, 111], (9 : Nat)⟩, ⟨3, Lx.pack [60, 61], (13 : Nat)⟩, ⟨1, Lx.pack [112, 99], (16 : Nat)⟩, ⟨0, ByteArray.empty, (18 : Nat)⟩]
theorem aliveR_lex : Lx.lex aliveRS = (aliveRL, 0, 0) := by rfl
theorem aliveR_read : Rl.told (Rl.read aliveRL false 0) = ([9, 10, 12, 8, 5], 5, 0) := by decide +kernel
theorem aliveR_from : Rl.from_ aliveRL 0 false = ([9, 10, 12, 8, 5], 5, 0) := by
  rw [may_yes (decide_eq_true ⟨by decide, by decide, _, rfl, rfl⟩)]
  exact aliveR_read

end Go.Proofs.YtggcmkpafpjnoaaGreatDoor
