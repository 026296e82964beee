/- An argument of type api.Space, opened; its numbers are of 64 bits. -/
import Derived.Test.YtmbgndcahlopdaaGOpenJ
import Derived.Test.YtmbgndcahlopdaaGGnA
namespace Go.Proofs.Ytmbgndcahlopdaa
set_option maxRecDepth 100000
open Go.ChangeShapes Go.WideShapes Go.ChangeAt Go.RowKit Go.Joins

theorem Try.cellsSpace15 : Try.prog.cellsOf 28 = 5 := by kernel_rfl
theorem Try.cellsRow15 : Try.prog.cellsOf 26 = 1 := by kernel_rfl
section
variable {H : Type} {enc : TypeId × Value → H} {W : World}
theorem space_open_arg {base : Nat} {v : Value} {d : DataW H} {p : List MemPlace} (hv : Value.okWide Try.prog W .any base 28 v) (h : DataW.Trod enc Try.prog W 0 (fun _ => true) true 28 v d p) :
    ∃ (A : Option Addr) (c : Nat) (q : Gn.Sp), v = spv q A c ∧ Row W W.heap.size A (ints q.ws) ∧ q.ws.length ≤ c ∧ c ≤ maxLen := by
  obtain ⟨cs, rfl, hsz⟩ := okWide_struct Try.underlying28 hv
  rw [Try.cellsSpace15] at hsz
  obtain ⟨l0⟩ := cs
  match l0, hsz with
  | [v0, v1, v2, v3, v4], _ =>
    obtain ⟨n, h⟩ := h
    obtain ⟨xs, k, _, _, _, hxl, hf⟩ := DataW.trod_struct Try.underlying28 h
    match xs, hxl with
    | [y0, y1, y2, y3, y4], _ =>
      have g0 := hf 0 _ rfl
      have g1 := hf 1 _ rfl
      have g2 := hf 2 _ rfl
      have g3 := hf 3 _ rfl
      have g4 := hf 4 _ rfl
      simp [Try.cellsOneJ, Try.cellsRow15, Value.cells] at g0 g1 g2 g3 g4
      obtain ⟨i0, h0, _, _⟩ := DataW.trod_int Try.underlying3 g0
      obtain ⟨i1, h1, _, _⟩ := DataW.trod_int Try.underlying3 g1
      obtain ⟨i2, h2, _, _⟩ := DataW.trod_int Try.underlying3 g2
      obtain ⟨i3, h3, _, _⟩ := DataW.trod_int Try.underlying3 g3
      injection h0 with h0 _
      injection h1 with h1 _
      injection h2 with h2 _
      injection h3 with h3 _
      subst h0 h1 h2 h3
      obtain ⟨A, l, c, rfl, r1, r2, r3, -⟩ := intsw_open g4
      exact ⟨A, c, ⟨i0, i1, i2, i3, l⟩, rfl, r1, r2, r3⟩
end
end Go.Proofs.Ytmbgndcahlopdaa
