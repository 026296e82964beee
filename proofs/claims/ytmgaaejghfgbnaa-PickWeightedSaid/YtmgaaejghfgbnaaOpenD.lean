/- An argument of type api.Draws, opened; its numbers are of 64 bits. -/
import Derived.Test.YtmgaaejghfgbnaaOpenJ
namespace Go.Proofs.Ytmgaaejghfgbnaa
set_option maxRecDepth 100000
open Go.ChangeShapes Go.WideShapes Go.ChangeAt Go.RowKit Go.Joins

theorem Try.cellsDraws13 : Try.prog.cellsOf 24 = 3 := by kernel_rfl
theorem Try.cellsRow13 : Try.prog.cellsOf 22 = 1 := by kernel_rfl
section
variable {H : Type} {enc : TypeId × Value → H} {W : World}
theorem draws_open_arg {base : Nat} {v : Value} {d : DataW H} {p : List MemPlace} (hv : Value.okWide Try.prog W .any base 24 v) (h : DataW.Trod enc Try.prog W 0 (fun _ => true) true 24 v d p) :
    ∃ (A L : Option Addr) (list log : List Int) (c e : Nat) (i : Int), v = .agg #[.slice A list.length c, .int .i64 i, .slice L log.length e] ∧ Row W W.heap.size A (ints list) ∧ Row W W.heap.size L (ints log) ∧ list.length ≤ c ∧ log.length ≤ e ∧ c ≤ maxLen ∧ e ≤ maxLen ∧ -9223372036854775808 ≤ i ∧ i < 9223372036854775808 := by
  obtain ⟨cs, rfl, hsz⟩ := okWide_struct Try.underlying24 hv
  rw [Try.cellsDraws13] at hsz
  obtain ⟨l0⟩ := cs
  match l0, hsz with
  | [v0, v1, v2], _ =>
    obtain ⟨n, h⟩ := h
    obtain ⟨xs, k, _, _, _, hxl, hf⟩ := DataW.trod_struct Try.underlying24 h
    match xs, hxl with
    | [y0, y1, y2], _ =>
      have g0 := hf 0 _ rfl
      have g1 := hf 1 _ rfl
      have g2 := hf 2 _ rfl
      simp [Try.cellsOneJ, Try.cellsRow13, Value.cells] at g0 g1 g2
      obtain ⟨A, l, c, rfl, r1, r2, r3, -⟩ := intsw_open g0
      obtain ⟨i, hi, _, hw⟩ := DataW.trod_int Try.underlying3 g1
      injection hi with hi _
      subst hi
      obtain ⟨B, l', c', rfl, r4, r5, r6, -⟩ := intsw_open g2
      exact ⟨A, B, l, l', c, c', i, rfl, r1, r4, r2, r5, r3, r6, wide_of_wf hw⟩
end
end Go.Proofs.Ytmgaaejghfgbnaa
