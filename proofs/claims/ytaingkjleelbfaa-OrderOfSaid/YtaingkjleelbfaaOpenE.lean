/- Arguments of type []string and []api.Edge, opened. -/
import Derived.Test.YtaingkjleelbfaaOpen
import Derived.Test.YtaingkjleelbfaaOrdP
import Derived.Deep.SlicePairs
namespace Go.Proofs.Ytaingkjleelbfaa
open Go.ChangeShapes Go.WideShapes Go.ChangeAt Go.RowKit Go.Joins Go.Deep

theorem Try.cells51 : Try.prog.cellsOf 51 = 2 := by kernel_rfl
theorem Try.cells3 : Try.prog.cellsOf 3 = 1 := by kernel_rfl
theorem ecells_row {W : World} {a : Addr} {es : List (Int × Int)} (h : ∀ i e, es[i]? = some e → W.cell? (a.add (i * 2)) = some (.int .i64 e.1) ∧ W.cell? (a.add (i * 2 + 1)) = some (.int .i64 e.2)) : ∀ j u, (ecells es)[j]? = some u → W.cell? (a.add j) = some u := by
  intro j u hu
  have hj : j < es.length * 2 := by
    have := (List.getElem?_eq_some_iff.1 hu).1
    rwa [ecells_length] at this
  have hk : j / 2 < es.length := by omega
  have h1 := ecells_at es (j / 2) es[j / 2] (List.getElem?_eq_getElem hk)
  have h2 := h (j / 2) es[j / 2] (List.getElem?_eq_getElem hk)
  rcases Nat.mod_two_eq_zero_or_one j with hm | hm
  · have e : j = j / 2 * 2 := by omega
    rw [e] at hu ⊢
    rw [h1.1] at hu
    rw [← hu]
    exact h2.1
  · have e : j = j / 2 * 2 + 1 := by omega
    rw [e] at hu ⊢
    rw [h1.2] at hu
    rw [← hu]
    exact h2.2
section
variable {H : Type} {enc : TypeId × Value → H} {W : World}
theorem strs_open_arg {base : Nat} {v : Value} {d : DataW H} {p : List MemPlace} (hv : Value.okWide Try.prog W .any base 22 v) (h : DataW.Trod enc Try.prog W 0 (fun _ => true) true 22 v d p) :
    ∃ (A : Option Addr) (names : List ByteArray) (c : Nat), v = .slice A names.length c ∧ Row W W.heap.size A (strs names) ∧ names.length ≤ c ∧ c ≤ maxLen ∧ ∀ s ∈ names, s.size ≤ maxLen := by
  obtain ⟨a, l, c, rfl⟩ := okWide_slice Try.underlying22 hv
  obtain ⟨n, h⟩ := h
  exact strs_open h
theorem edges_open {n : Nat} {v : Value} {y : DataW H × List MemPlace} (h : DataW.trod enc Try.prog W 0 (fun _ => true) true n 36 [v] = some y) :
    ∃ (A : Option Addr) (es : List (Int × Int)) (c : Nat), v = .slice A es.length c ∧ Row W W.heap.size A (ecells es) ∧ es.length ≤ c ∧ c ≤ maxLen := by
  rcases open_slice_pairs Try.underlying36 Try.underlying51 Try.cells51 rfl rfl Try.cells3 Try.cells3 h with ⟨hcs, _⟩ | ⟨a, len, cap, m, n, V0, V1, D0, D1, P0, P1, hcs, _, hl, hm, hz, _, hi⟩
  · injection hcs with hcs _
    exact ⟨none, [], 0, hcs, Row.nil, Nat.le_refl _, by decide⟩
  · injection hcs with hcs _
    simp only [if_true] at hz
    subst hz
    have hint : ∀ i, i < m → W.cell? (a.add (i * 2)) = some (.int .i64 (intOf (V0 i))) ∧ W.cell? (a.add (i * 2 + 1)) = some (.int .i64 (intOf (V1 i))) := by
      intro i him
      obtain ⟨h0, h1, t0, t1⟩ := hi i him
      obtain ⟨x, hx, _⟩ := DataW.trod_int Try.underlying3 t0
      obtain ⟨z, hz, _⟩ := DataW.trod_int Try.underlying3 t1
      injection hx with hx _
      injection hz with hz _
      exact ⟨by rw [h0, hx]; rfl, by rw [h1, hz]; rfl⟩
    have hlen : ((List.range len).map fun i => (intOf (V0 i), intOf (V1 i))).length = len := by simp
    refine ⟨some a, (List.range len).map fun i => (intOf (V0 i), intOf (V1 i)), m, by rw [hlen]; exact hcs, ?_, by rw [hlen]; exact hl, hm⟩
    intro hne
    have hl0 : 0 < len := by
      rcases Nat.eq_zero_or_pos len with h0 | h0
      · subst h0; exact absurd rfl hne
      · exact h0
    refine ⟨a, rfl, ?_, ecells_row fun i e he => ?_⟩
    · have := block_lt_of_cell (hint 0 (by omega)).1
      rwa [add_block] at this
    · rw [List.getElem?_map] at he
      cases hr : (List.range len)[i]? with
      | none => rw [hr] at he; cases he
      | some k =>
        have hi' : i < len := by have := (List.getElem?_eq_some_iff.1 hr).1; simpa using this
        rw [List.getElem?_range hi'] at hr
        injection hr with hr
        subst hr
        rw [List.getElem?_range hi'] at he
        injection he with he
        subst he
        exact hint i (by omega)
theorem edges_open_arg {base : Nat} {v : Value} {d : DataW H} {p : List MemPlace} (hv : Value.okWide Try.prog W .any base 36 v) (h : DataW.Trod enc Try.prog W 0 (fun _ => true) true 36 v d p) :
    ∃ (A : Option Addr) (es : List (Int × Int)) (c : Nat), v = .slice A es.length c ∧ Row W W.heap.size A (ecells es) ∧ es.length ≤ c ∧ c ≤ maxLen := by
  obtain ⟨a, l, c, rfl⟩ := okWide_slice Try.underlying36 hv
  obtain ⟨n, h⟩ := h
  exact edges_open h
end
end Go.Proofs.Ytaingkjleelbfaa
