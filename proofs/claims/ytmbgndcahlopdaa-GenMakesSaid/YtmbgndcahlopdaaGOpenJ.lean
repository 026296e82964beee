/- An argument of type []int, opened; its numbers are of 64 bits. -/
import Derived.Test.YtmbgndcahlopdaaGRulA
import Derived.Test.YtmbgndcahlopdaaGOpen
namespace Go.Proofs.Ytmbgndcahlopdaa
set_option maxRecDepth 100000
open Go.ChangeShapes Go.WideShapes Go.ChangeAt Go.RowKit Go.Joins

theorem Try.cellsOneJ : Try.prog.cellsOf 3 = 1 := by kernel_rfl
theorem wide_of_wf {n : Int} (h : (Lit.int .i64 n).wf = true) : -9223372036854775808 ≤ n ∧ n < 9223372036854775808 := by
  unfold Lit.wf at h
  rw [Bool.and_eq_true, decide_eq_true_iff, decide_eq_true_iff] at h
  have h1 : IntKind.min .i64 = -9223372036854775808 := by decide +kernel
  have h2 : IntKind.max .i64 = 9223372036854775807 := by decide +kernel
  rw [h1, h2] at h
  omega
section
variable {H : Type} {enc : TypeId × Value → H} {W : World}
theorem intsw_open {n : Nat} {v : Value} {y : DataW H × List MemPlace} (h : DataW.trod enc Try.prog W 0 (fun _ => true) true n 26 [v] = some y) :
    ∃ (A : Option Addr) (l : List Int) (c : Nat), v = .slice A l.length c ∧ Row W W.heap.size A (ints l) ∧ l.length ≤ c ∧ c ≤ maxLen ∧ ∀ x ∈ l, -9223372036854775808 ≤ x ∧ x < 9223372036854775808 := by
  rcases open_ints Try.underlying26 Try.underlying3 Try.cellsOneJ h with ⟨hcs, _⟩ | ⟨a, len, cap, zs, hcs, _, hl, hm, hz, _, hcell, hws⟩
  · injection hcs with hcs _
    exact ⟨none, [], 0, hcs, Row.nil, Nat.le_refl _, by decide, fun x hx => by cases hx⟩
  · injection hcs with hcs _
    simp only [if_true] at hz
    have hlen : (zs.take len).length = len := by simp; omega
    refine ⟨some a, zs.take len, cap, by rw [hlen]; exact hcs, ?_, by rw [hlen]; exact hl, hm, fun x hx => wide_of_wf (hws x (List.mem_of_mem_take hx))⟩
    intro hne
    have hl0 : 0 < len := by
      rcases Nat.eq_zero_or_pos len with h0 | h0
      · subst h0; exact absurd rfl hne
      · exact h0
    have hcj : ∀ j, j < len → W.cell? (a.add j) = some (.int .i64 (zs.getD j 0)) := fun j hj => hcell j (by omega)
    refine ⟨a, rfl, ?_, fun j u hu => ?_⟩
    · have := block_lt_of_cell (hcj 0 hl0)
      rwa [add_block] at this
    · unfold ints at hu
      rw [List.getElem?_map, List.getElem?_take] at hu
      split at hu
      · rename_i hj
        rw [hcj j hj, ← hu, List.getD_eq_getElem?_getD, List.getElem?_eq_getElem (show j < zs.length by omega)]
        rfl
      · cases hu
end
end Go.Proofs.Ytmbgndcahlopdaa

/- An argument of type api.Draws, opened; its numbers are of 64 bits. -/
namespace Go.Proofs.Ytmbgndcahlopdaa
set_option maxRecDepth 100000
open Go.ChangeShapes Go.WideShapes Go.ChangeAt Go.RowKit Go.Joins

theorem Try.cellsDraws13 : Try.prog.cellsOf 30 = 3 := by kernel_rfl
theorem Try.cellsRow13 : Try.prog.cellsOf 26 = 1 := by kernel_rfl
section
variable {H : Type} {enc : TypeId × Value → H} {W : World}
theorem draws_open_arg {base : Nat} {v : Value} {d : DataW H} {p : List MemPlace} (hv : Value.okWide Try.prog W .any base 30 v) (h : DataW.Trod enc Try.prog W 0 (fun _ => true) true 30 v d p) :
    ∃ (A L : Option Addr) (list log : List Int) (c e : Nat) (i : Int), v = .agg #[.slice A list.length c, .int .i64 i, .slice L log.length e] ∧ Row W W.heap.size A (ints list) ∧ Row W W.heap.size L (ints log) ∧ list.length ≤ c ∧ log.length ≤ e ∧ c ≤ maxLen ∧ e ≤ maxLen ∧ -9223372036854775808 ≤ i ∧ i < 9223372036854775808 := by
  obtain ⟨cs, rfl, hsz⟩ := okWide_struct Try.underlying30 hv
  rw [Try.cellsDraws13] at hsz
  obtain ⟨l0⟩ := cs
  match l0, hsz with
  | [v0, v1, v2], _ =>
    obtain ⟨n, h⟩ := h
    obtain ⟨xs, k, _, _, _, hxl, hf⟩ := DataW.trod_struct Try.underlying30 h
    match xs, hxl with
    | [y0, y1, y2], _ =>
      have g0 := hf 0 _ rfl
      have g1 := hf 1 _ rfl
      have g2 := hf 2 _ rfl
      simp [Try.cellsOneJ, Try.cellsRow13, Value.cells] at g0 g1 g2
      obtain ⟨A, l, c, rfl, r1, r2, r3, -⟩ := intsw_open g0
      obtain ⟨i, hi, _, hw⟩ := DataW.trod_int Try.underlying3 g1
      injection hi with hi _
      subst hi
      obtain ⟨B, l', c', rfl, r4, r5, r6, -⟩ := intsw_open g2
      exact ⟨A, B, l, l', c, c', i, rfl, r1, r4, r2, r5, r3, r6, wide_of_wf hw⟩
end
end Go.Proofs.Ytmbgndcahlopdaa
