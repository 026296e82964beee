/- The reader of tokens in memory (package notation), by gen_notg.py; walks of Next, takes, must, Word, Mark, TakesWord, TakesMark, digits. -/
import Derived.Test.YtmbgndcahlopdaaGCodA
import Derived.Test.YtmbgndcahlopdaaGOrd
import Derived.Test.YtmbgndcahlopdaaGTabE
import Derived.Test.YtmbgndcahlopdaaGOrdC
namespace Go.Proofs.Ytmbgndcahlopdaa
set_option maxRecDepth 100000
open Go.RowKit Go.Shelf
attribute [local go_sem] Oper.semAt_some

end Go.Proofs.Ytmbgndcahlopdaa

/- The reference's Mark, Int (by gen_codb.py). -/
namespace Go.Proofs.Ytmbgndcahlopdaa
set_option maxRecDepth 100000
open Go.RowKit Go.Shelf Go.Sort
attribute [local go_sem] Oper.semAt_some
end Go.Proofs.Ytmbgndcahlopdaa

/- Walks of the reader's Number and Label (package notation), by gen_noth.py. -/
namespace Go.Proofs.Ytmbgndcahlopdaa
set_option maxRecDepth 100000
open Go.RowKit Go.Shelf Go.Sort
attribute [local go_sem] Oper.semAt_some
end Go.Proofs.Ytmbgndcahlopdaa

/- Walk of the reader's rest (by gen_codi.py). -/
namespace Go.Proofs.Ytmbgndcahlopdaa
set_option maxRecDepth 100000
open Go.RowKit Go.Shelf Go.Sort
attribute [local go_sem] Oper.semAt_some
end Go.Proofs.Ytmbgndcahlopdaa

/- Walk of the reader's instruction. -/
namespace Go.Proofs.Ytmbgndcahlopdaa
set_option maxRecDepth 100000
open Go.RowKit Go.Shelf Go.Sort
attribute [local go_sem] Oper.semAt_some
end Go.Proofs.Ytmbgndcahlopdaa

/- Rows of things of several cells; rows in new blocks. Over no program but what CodA names. -/
namespace Go.Proofs.Ytmbgndcahlopdaa
set_option maxRecDepth 100000
open Go.RowKit Go.Shelf
/-! Rows of things of several cells. -/
def fcells {α : Type} (f : α → List Value) (l : List α) : List Value := l.flatMap f
theorem fcells_length {α : Type} {f : α → List Value} {n : Nat} (hf : ∀ x, (f x).length = n) (l : List α) : (fcells f l).length = l.length * n := by
  induction l with
  | nil => simp [fcells]
  | cons e r ih =>
    have : fcells f (e :: r) = f e ++ fcells f r := rfl
    rw [this, List.length_append, hf, ih, List.length_cons, Nat.succ_mul]
    omega
theorem fcells_snoc {α : Type} (f : α → List Value) (l : List α) (t : α) : fcells f (l ++ [t]) = fcells f l ++ f t := by simp [fcells]
theorem fcells_at {α : Type} {f : α → List Value} {n : Nat} (hf : ∀ x, (f x).length = n) : ∀ (l : List α) (k : Nat) (t : α), l[k]? = some t → ∀ j, j < n → (fcells f l)[k * n + j]? = (f t)[j]?
  | [], k, t, h, _, _ => by simp at h
  | e :: r, 0, t, h, j, hj => by
    simp only [List.getElem?_cons_zero, Option.some.injEq] at h
    subst h
    rw [show fcells f (e :: r) = f e ++ fcells f r from rfl, Nat.zero_mul, Nat.zero_add, List.getElem?_append_left (by rw [hf]; exact hj)]
  | e :: r, k + 1, t, h, j, hj => by
    have ih := fcells_at hf r k t (by simpa using h) j hj
    rw [show fcells f (e :: r) = f e ++ fcells f r from rfl, List.getElem?_append_right (by rw [hf, Nat.succ_mul]; omega), hf, ← ih]
    congr 1
    rw [Nat.succ_mul]
    omega
def ivs (x : Cd.In) : List Value := [.int .i64 x.op, .int .i64 x.n, .int .i64 x.l]
theorem ivs_len (x : Cd.In) : (ivs x).length = 3 := rfl
end Go.Proofs.Ytmbgndcahlopdaa
