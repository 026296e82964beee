/- Walk of the law StateBack (by gen_stmk.py). -/
import Derived.Test.YtipbilmnknmhmaaGreatDoorGStmJ
import Derived.Test.YtipbilmnknmhmaaGreatDoorGStmU
import Derived.Test.YtipbilmnknmhmaaGreatDoorGCodP
import Derived.Test.YtipbilmnknmhmaaGreatDoorGLawO
namespace Go.Proofs.YtipbilmnknmhmaaGreatDoor
set_option maxRecDepth 100000
open Go.RowKit Go.Shelf Go.Sort
attribute [local go_sem] Oper.semAt_some
/-- What the law holds of its boxes. -/
structure Law9 (w : World) (x0 x1 : Value) (names : List ByteArray) (up : List Nat) (cs : Array Value) (W : World) : Prop where
  one : One w x0 x1 names up W
  st : Blk W (w.heap.size + 1) 42 cs
theorem Law9.next {w : World} {x0 x1 : Value} {names : List ByteArray} {up : List Nat} {cs : Array Value} {W W' : World} (h : Law9 w x0 x1 names up cs W) (hb : Below W.heap.size W W') : Law9 w x0 x1 names up cs W' :=
  ⟨one_stable _ _ _ _ _ _ _ h.one hb, h.st.below hb h.st.lt⟩
theorem right_small {k : Nat} {s : St.State} (h : St.rightB k s = true) : SmallS s := by
  unfold St.rightB at h
  simp only [Bool.and_eq_true] at h
  obtain ⟨⟨⟨⟨r1, -⟩, ⟨r3, -⟩⟩, ⟨r4, -⟩⟩, ⟨r5, -⟩⟩ := h
  unfold Cd.rightB at r1
  rw [Bool.and_eq_true] at r1
  have a := of_decide_eq_true r1.1
  have b := of_decide_eq_true r3
  have c := of_decide_eq_true r4
  have d := of_decide_eq_true r5
  exact ⟨by omega, by omega, by omega, by omega⟩
end Go.Proofs.YtipbilmnknmhmaaGreatDoor
