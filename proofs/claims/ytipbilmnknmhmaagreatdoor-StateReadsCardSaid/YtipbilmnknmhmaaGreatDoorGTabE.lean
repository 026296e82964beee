/- The walk of rowText. -/
import Derived.Lib.QuietBelow
import Derived.Test.YtipbilmnknmhmaaGreatDoorGShoA
import Derived.Test.YtipbilmnknmhmaaGreatDoorGLexD
import Derived.Test.YtipbilmnknmhmaaGreatDoorGRulA
namespace Go.Proofs.YtipbilmnknmhmaaGreatDoor
set_option maxRecDepth 100000
open Go.RowKit Go.Shelf Go.Sort
attribute [local go_sem] Oper.semAt_some

namespace Tb
end Tb
theorem JoinIn.keep {w : World} {v : Value} {l : List ByteArray} {wr w' : World} (h : JoinIn w v l wr) (hb : Below wr.heap.size wr w') : JoinIn w v l w' :=
  ⟨ownT_below h.1 hb, h.2.trans (hb.mono h.2.size)⟩
end Go.Proofs.YtipbilmnknmhmaaGreatDoor

/- The reader of a table in memory; walks of next, mark. -/
namespace Go.Proofs.YtipbilmnknmhmaaGreatDoor
set_option maxRecDepth 100000
open Go.RowKit Go.Shelf
attribute [local go_sem] Oper.semAt_some

/-- What a reading keeps: all blocks but the reader and its rows. -/
structure Kept (R Q : Nat) (w w' : World) : Prop where
  os : w'.os = w.os
  tape : w'.tape = w.tape
  output : w'.output = w.output
  size : w.heap.size ≤ w'.heap.size
  block : ∀ k, k < w.heap.size → k ≠ R → k ≠ Q → w'.heap[k]? = w.heap[k]?
section
variable {R Q : Nat} {a w w' w2 : World}
theorem Kept.refl (R Q : Nat) (w : World) : Kept R Q w w := ⟨rfl, rfl, rfl, Nat.le_refl _, fun _ _ _ _ => rfl⟩
theorem Kept.trans (h : Kept R Q a w) (h2 : Kept R Q w w2) : Kept R Q a w2 :=
  ⟨h2.os.trans h.os, h2.tape.trans h.tape, h2.output.trans h.output, Nat.le_trans h.size h2.size, fun k hk hR hQ => (h2.block k (Nat.lt_of_lt_of_le hk h.size) hR hQ).trans (h.block k hk hR hQ)⟩
theorem Kept.of (h : Below w.heap.size w w') : Kept R Q w w' := ⟨h.os, h.tape, h.output, h.size, fun k hk _ _ => h.block k hk⟩
theorem Kept.set_ (h : Kept R Q a w) {p : Addr} (hp : p.block = R ∨ p.block = Q) (u : Value) : Kept R Q a (w.setCell p u) :=
  h.trans ⟨rfl, rfl, rfl, by simp [World.setCell], fun k _ hR hQ => Below.heap_setCell _ _ _ _ (by rcases hp with e | e <;> rw [e] <;> assumption)⟩
theorem Kept.below (h : Kept R Q w w') {B : Nat} (hB : B ≤ w.heap.size) (hR : B ≤ R) (hQ : B ≤ Q) : Below B w w' :=
  ⟨h.os, h.tape, h.output, h.size, fun k hk => h.block k (by omega) (by omega) (by omega)⟩
theorem Kept.cell (h : Kept R Q w w') {p : Addr} (hp : p.block < w.heap.size) (hR : p.block ≠ R) (hQ : p.block ≠ Q) : w'.cell? p = w.cell? p := World.cell?_of_block (w := w) (h.block _ hp hR hQ)
end
/-- A row that a reading keeps. -/
def ARow (R Q : Nat) (W : World) (A : Option Addr) (xs : List Value) : Prop := xs ≠ [] → ∃ ad, A = some ad ∧ (ad.block < W.heap.size ∧ ad.block ≠ R ∧ ad.block ≠ Q) ∧ ∀ j u, xs[j]? = some u → W.cell? (ad.add j) = some u
section
variable {R Q : Nat} {w w' : World} {A : Option Addr} {xs : List Value}
theorem ARow.kept (h : ARow R Q w A xs) (hk : Kept R Q w w') : ARow R Q w' A xs := fun hn => by
  obtain ⟨ad, e, ⟨h1, h2, h3⟩, hc⟩ := h hn
  exact ⟨ad, e, ⟨Nat.lt_of_lt_of_le h1 hk.size, h2, h3⟩, fun j u hu => (hk.cell (by rw [add_block]; exact h1) (by rw [add_block]; exact h2) (by rw [add_block]; exact h3)).trans (hc j u hu)⟩
theorem ARow.row (h : ARow R Q w A xs) : Row w w.heap.size A xs := fun hn => by
  obtain ⟨ad, e, hb, hc⟩ := h hn
  exact ⟨ad, e, hb.1, hc⟩
end
/-- Numbers in a row that a reading keeps. -/
def AInts (R Q : Nat) (W : World) (v : Value) (l : List Int) : Prop := ∃ A c, v = .slice A l.length c ∧ ARow R Q W A (ints l) ∧ l.length ≤ c
theorem AInts.kept {R Q : Nat} {w w' : World} {v : Value} {l : List Int} (h : AInts R Q w v l) (hk : Kept R Q w w') : AInts R Q w' v l := by
  obtain ⟨A, c, e, hr, hc⟩ := h
  exact ⟨A, c, e, hr.kept hk, hc⟩
theorem AInts.ints {R Q : Nat} {w : World} {v : Value} {l : List Int} (h : AInts R Q w v l) : IsInts w w.heap.size v l := by
  obtain ⟨A, c, e, hr, hc⟩ := h
  exact ⟨A, c, e, hr.row, hc⟩
/-- What stands fast while a table is read. -/
structure Fast (R Q P b0 b1 b2 : Nat) : Prop where
  rq : R ≠ Q
  p : P ≠ R ∧ P ≠ Q
  v0 : b0 ≠ R ∧ b0 ≠ Q
  v1 : b1 ≠ R ∧ b1 ≠ Q
  v2 : b2 ≠ R ∧ b2 ≠ Q
  g : 0 ≠ R ∧ 0 ≠ Q
theorem Ins.kept {R Q P b0 b1 b2 : Nat} {w w' : World} (h : Ins w) (hf : Fast R Q P b0 b1 b2) (hk : Kept R Q w w') : Ins w' := fun k hk' =>
  ⟨(hk.cell (p := ⟨0, k * 2, none⟩) h.lt hf.g.1 hf.g.2).trans (h k hk').1, (hk.cell (p := ⟨0, k * 2 + 1, none⟩) h.lt hf.g.1 hf.g.2).trans (h k hk').2⟩
section
variable {R Q P b0 b1 b2 c : Nat} {A : Option Addr} {l : List Lx.Tk} {s : Tb.St} {w w' : World}
end
def tkv (t : Lx.Tk) : Value := .agg #[.int .i64 t.kind, .string t.text, .int .i64 t.pos]
section
variable {R Q P b0 b1 b2 c : Nat} {A : Option Addr} {l : List Lx.Tk} {s : Tb.St}
end
end Go.Proofs.YtipbilmnknmhmaaGreatDoor
