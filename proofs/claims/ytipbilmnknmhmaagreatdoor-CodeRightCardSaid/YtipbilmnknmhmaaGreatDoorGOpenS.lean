/- An argument of type []api.Instr, opened. -/
import Derived.Deep.SlicePairs
import Derived.Test.YtipbilmnknmhmaaGreatDoorGOpen
import Derived.Test.YtipbilmnknmhmaaGreatDoorGCodA
namespace Go.Proofs.YtipbilmnknmhmaaGreatDoor
set_option maxRecDepth 100000
open Go.ChangeShapes Go.WideShapes Go.ChangeAt Go.RowKit Go.Joins Go.Deep

theorem Tryz.cellsInstr8 : Tryz.prog.cellsOf 57 = 3 := by kernel_rfl
theorem Tryz.cellsInt8 : Tryz.prog.cellsOf 3 = 1 := by kernel_rfl
theorem icells_row {W : World} {a : Addr} {l : List Cd.In} (h : ∀ i t, l[i]? = some t → W.cell? (a.add (i * 3)) = some (.int .i64 t.op) ∧ W.cell? (a.add (i * 3 + 1)) = some (.int .i64 t.n) ∧ W.cell? (a.add (i * 3 + 2)) = some (.int .i64 t.l)) : ∀ j u, (icells l)[j]? = some u → W.cell? (a.add j) = some u := by
  intro j u hu
  have hj : j < l.length * 3 := by
    have := (List.getElem?_eq_some_iff.1 hu).1
    rwa [icells_length] at this
  have hk : j / 3 < l.length := by omega
  have h1 := icells_at l (j / 3) l[j / 3] (List.getElem?_eq_getElem hk)
  have h2 := h (j / 3) l[j / 3] (List.getElem?_eq_getElem hk)
  have hm : j = j / 3 * 3 ∨ j = j / 3 * 3 + 1 ∨ j = j / 3 * 3 + 2 := by omega
  rcases hm with e | e | e
  · rw [e] at hu ⊢
    rw [h1.1] at hu
    rw [← hu]
    exact h2.1
  · rw [e] at hu ⊢
    rw [h1.2.1] at hu
    rw [← hu]
    exact h2.2.1
  · rw [e] at hu ⊢
    rw [h1.2.2] at hu
    rw [← hu]
    exact h2.2.2
instance : Inhabited Cd.In := ⟨⟨0, 0, 0⟩⟩
section
variable {H : Type} {enc : TypeId × Value → H} {W : World}
theorem instrs_open {n : Nat} {v : Value} {y : DataW H × List MemPlace} (h : DataW.trod enc Tryz.prog W 0 (fun _ => true) true n 26 [v] = some y) :
    ∃ (A : Option Addr) (l : List Cd.In) (c : Nat), v = .slice A l.length c ∧ Row W W.heap.size A (icells l) ∧ l.length ≤ c ∧ c ≤ maxLen := by
  rcases open_slice Tryz.underlying26 h with ⟨hcs, _⟩ | ⟨a, len, cap, m, n, D, Pl, hcs, _, hl, hm, hz, _, hi⟩
  · injection hcs with hcs _
    exact ⟨none, [], 0, hcs, Row.nil, Nat.le_refl _, by decide⟩
  · injection hcs with hcs _
    simp only [if_true] at hz
    subst hz
    have each : ∀ i, i < m → ∃ t : Cd.In, (W.cell? (a.add (i * 3)) = some (.int .i64 t.op) ∧ W.cell? (a.add (i * 3 + 1)) = some (.int .i64 t.n) ∧ W.cell? (a.add (i * 3 + 2)) = some (.int .i64 t.l)) := by
      intro i him
      obtain ⟨cs', h1, h2⟩ := hi i him
      rw [Tryz.cellsInstr8] at h1
      obtain ⟨_, hlen, hcell⟩ := World.cells?_some h1
      obtain ⟨xs, k, _, _, _, hxl, hf⟩ := DataW.trod_struct Tryz.underlying57 h2
      match xs, hxl, cs', hlen with
      | [y0, y1, y2], _, [v0, v1, v2], _ =>
        have g0 := hf 0 _ rfl
        have g1 := hf 1 _ rfl
        have g2 := hf 2 _ rfl
        simp [Tryz.cellsInt8] at g0 g1 g2
        have e0 := hcell 0 (by omega)
        have e1 := hcell 1 (by omega)
        have e2 := hcell 2 (by omega)
        rw [add_add] at e0 e1 e2
        obtain ⟨n0, h0, _⟩ := DataW.trod_int Tryz.underlying3 g0
        obtain ⟨n1, h1', _⟩ := DataW.trod_int Tryz.underlying3 g1
        obtain ⟨n2, h2', _⟩ := DataW.trod_int Tryz.underlying3 g2
        injection h0 with h0 _
        injection h1' with h1' _
        injection h2' with h2' _
        subst h0 h1' h2'
        exact ⟨⟨n0, n1, n2⟩, by simpa using e0, by simpa using e1, by simpa using e2⟩
    obtain ⟨q, hq⟩ := choose_lt each
    have hlen : ((List.range len).map q).length = len := by simp
    refine ⟨some a, (List.range len).map q, m, by rw [hlen]; exact hcs, ?_, by rw [hlen]; exact hl, hm⟩
    intro hne
    have hl0 : 0 < len := by
      rcases Nat.eq_zero_or_pos len with h0 | h0
      · subst h0; exact absurd rfl hne
      · exact h0
    refine ⟨a, rfl, ?_, icells_row fun i t ht => ?_⟩
    · have := block_lt_of_cell (hq 0 (by omega)).1
      rwa [add_block] at this
    · have hi' : i < len := by have := (List.getElem?_eq_some_iff.1 ht).1; simpa using this
      rw [List.getElem?_map, List.getElem?_range hi'] at ht
      injection ht with ht
      subst ht
      exact hq i (by omega)
theorem instrs_open_arg {base : Nat} {v : Value} {d : DataW H} {p : List MemPlace} (hv : Value.okWide Tryz.prog W .any base 26 v) (h : DataW.Trod enc Tryz.prog W 0 (fun _ => true) true 26 v d p) :
    ∃ (A : Option Addr) (l : List Cd.In) (c : Nat), v = .slice A l.length c ∧ Row W W.heap.size A (icells l) ∧ l.length ≤ c ∧ c ≤ maxLen := by
  obtain ⟨a, l, c, rfl⟩ := okWide_slice Tryz.underlying26 hv
  obtain ⟨n, h⟩ := h
  exact instrs_open h
end
end Go.Proofs.YtipbilmnknmhmaaGreatDoor
