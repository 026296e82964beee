/- An argument of type api.Table, opened; the wrap of a law over variables that are laid, with the world's shape. -/
import Derived.Shelf.Vars
import Derived.Test.YtggcmkpafpjnoaaGreatDoorGOpenI
import Derived.Test.YtggcmkpafpjnoaaGreatDoorGTabC
import Derived.Test.YtggcmkpafpjnoaaGreatDoorGShoV
namespace Go.Proofs.YtggcmkpafpjnoaaGreatDoor
set_option maxRecDepth 100000
open Go.ChangeShapes Go.WideShapes Go.ChangeAt Go.RowKit Go.Joins Go.Deep

theorem Tryz.cells43 : Tryz.prog.cellsOf 43 = 3 := by kernel_rfl
theorem Tryz.cellsOne41 : Tryz.prog.cellsOf 41 = 1 := by kernel_rfl
theorem Tryz.cellsOne22 : Tryz.prog.cellsOf 22 = 1 := by kernel_rfl
theorem Tryz.cells24 : Tryz.prog.cellsOf 24 = 1 := by kernel_rfl
def pick3 (q : Value × Value × Value) (r : Nat) : Value := if r = 0 then q.1 else if r = 1 then q.2.1 else q.2.2
def trips (f : Nat → Value × Value × Value) (n : Nat) : List Value := (List.range (n * 3)).map fun j => pick3 (f (j / 3)) (j % 3)
theorem trips_at (f : Nat → Value × Value × Value) {n j : Nat} (h : j < n * 3) : (trips f n)[j]? = some (pick3 (f (j / 3)) (j % 3)) := by
  unfold trips
  rw [List.getElem?_map, List.getElem?_range h]
  rfl
theorem trips_row {W : World} {a : Addr} {f : Nat → Value × Value × Value} {n : Nat} (h : ∀ i, i < n → W.cell? (a.add (i * 3)) = some (f i).1 ∧ W.cell? (a.add (i * 3 + 1)) = some (f i).2.1 ∧ W.cell? (a.add (i * 3 + 2)) = some (f i).2.2) : ∀ j u, (trips f n)[j]? = some u → W.cell? (a.add j) = some u := by
  intro j u hu
  have hj : j < n * 3 := by
    have := (List.getElem?_eq_some_iff.1 hu).1
    simpa [trips] using this
  rw [trips_at f hj] at hu
  obtain ⟨h0, h1, h2⟩ := h (j / 3) (by omega)
  have hm : j = j / 3 * 3 ∧ j % 3 = 0 ∨ j = j / 3 * 3 + 1 ∧ j % 3 = 1 ∨ j = j / 3 * 3 + 2 ∧ j % 3 = 2 := by omega
  rcases hm with ⟨e, er⟩ | ⟨e, er⟩ | ⟨e, er⟩
  · rw [er] at hu; rw [← hu]; rw [← e] at h0; exact h0
  · rw [er] at hu; rw [← hu]; rw [← e] at h1; exact h1
  · rw [er] at hu; rw [← hu]; rw [← e] at h2; exact h2
instance : Inhabited Tb.PR := ⟨Tb.PR.none⟩
section
variable {H : Type} {enc : TypeId × Value → H} {W : World}
theorem rows_open {n : Nat} {v : Value} {y : DataW H × List MemPlace} (h : DataW.trod enc Tryz.prog W 0 (fun _ => true) true n 22 [v] = some y) :
    ∃ (A : Option Addr) (l : List Tb.PR) (c : Nat), v = .slice A l.length c ∧ RowsIn W W.heap.size A l ∧ l.length ≤ c ∧ c ≤ maxLen := by
  rcases open_slice Tryz.underlying22 h with ⟨hcs, _⟩ | ⟨a, len, cap, m, n, D, Pl, hcs, _, hl, hm, hz, _, hi⟩
  · injection hcs with hcs _
    exact ⟨none, [], 0, hcs, RowsIn.nil _ _ _, Nat.le_refl _, by decide⟩
  · injection hcs with hcs _
    simp only [if_true] at hz
    subst hz
    have each : ∀ i, i < m → ∃ t : (Value × Value × Value) × Tb.PR, (W.cell? (a.add (i * 3)) = some t.1.1 ∧ W.cell? (a.add (i * 3 + 1)) = some t.1.2.1 ∧ W.cell? (a.add (i * 3 + 2)) = some t.1.2.2) ∧
        IsInts W W.heap.size t.1.1 t.2.m ∧ IsInts W W.heap.size t.1.2.1 t.2.r ∧ IsInts W W.heap.size t.1.2.2 t.2.p := by
      intro i him
      obtain ⟨cs', h1, h2⟩ := hi i him
      rw [Tryz.cells43] at h1
      obtain ⟨_, hlen, hcell⟩ := World.cells?_some h1
      obtain ⟨xs, k, _, _, _, hxl, hf⟩ := DataW.trod_struct Tryz.underlying43 h2
      match xs, hxl, cs', hlen with
      | [y0, y1, y2], _, [v0, v1, v2], _ =>
        have g0 := hf 0 _ rfl
        have g1 := hf 1 _ rfl
        have g2 := hf 2 _ rfl
        simp [Tryz.cellsOne41] at g0 g1 g2
        have e0 := hcell 0 (by omega)
        have e1 := hcell 1 (by omega)
        have e2 := hcell 2 (by omega)
        rw [add_add] at e0 e1 e2
        obtain ⟨A0, l0, c0, rfl, r0, k0, _⟩ := ints_open g0
        obtain ⟨A1, l1, c1, rfl, r1, k1, _⟩ := ints_open g1
        obtain ⟨A2, l2, c2, rfl, r2, k2, _⟩ := ints_open g2
        exact ⟨((_, _, _), ⟨l0, l1, l2⟩), ⟨by simpa using e0, by simpa using e1, by simpa using e2⟩, ⟨A0, c0, rfl, r0, k0⟩, ⟨A1, c1, rfl, r1, k1⟩, ⟨A2, c2, rfl, r2, k2⟩⟩
    obtain ⟨q, hq⟩ := choose_lt each
    have hlen : ((List.range len).map fun i => (q i).2).length = len := by simp
    refine ⟨some a, (List.range len).map fun i => (q i).2, m, by rw [hlen]; exact hcs, ⟨trips (fun i => (q i).1) len, by simp [trips], fun hne => ?_, fun k x hx => ?_⟩, by rw [hlen]; exact hl, hm⟩
    · have hl0 : 0 < len := by
        rcases Nat.eq_zero_or_pos len with h0 | h0
        · subst h0; exact absurd rfl hne
        · exact h0
      refine ⟨a, rfl, ?_, trips_row fun i hi' => (hq i (by omega)).1⟩
      have := block_lt_of_cell (hq 0 (by omega)).1.1
      rwa [add_block] at this
    · have hk : k < len := by have := (List.getElem?_eq_some_iff.1 hx).1; simpa using this
      rw [List.getElem?_map, List.getElem?_range hk] at hx
      injection hx with hx
      subst hx
      refine ⟨(q k).1.1, (q k).1.2.1, (q k).1.2.2, ?_, ?_, ?_, (hq k (by omega)).2⟩
      · rw [trips_at _ (by omega), show k * 3 / 3 = k by omega, show k * 3 % 3 = 0 by omega]; rfl
      · rw [trips_at _ (by omega), show (k * 3 + 1) / 3 = k by omega, show (k * 3 + 1) % 3 = 1 by omega]; rfl
      · rw [trips_at _ (by omega), show (k * 3 + 2) / 3 = k by omega, show (k * 3 + 2) % 3 = 2 by omega]; rfl
theorem tab_open_arg {base : Nat} {v : Value} {d : DataW H} {p : List MemPlace} (hv : Value.okWide Tryz.prog W .any base 24 v) (h : DataW.Trod enc Tryz.prog W 0 (fun _ => true) true 24 v d p) :
    ∃ (A : Option Addr) (l : List Tb.PR) (c : Nat), v = .agg #[.slice A l.length c] ∧ RowsIn W W.heap.size A l ∧ l.length ≤ c ∧ c ≤ maxLen := by
  obtain ⟨cs, rfl, hsz⟩ := okWide_struct Tryz.underlying24 hv
  rw [Tryz.cells24] at hsz
  obtain ⟨l0⟩ := cs
  match l0, hsz with
  | [v0], _ =>
    obtain ⟨n, h⟩ := h
    obtain ⟨xs, k, _, _, _, hxl, hf⟩ := DataW.trod_struct Tryz.underlying24 h
    match xs, hxl with
    | [y0], _ =>
      have g0 := hf 0 _ rfl
      simp [Tryz.cellsOne22, Value.cells] at g0
      obtain ⟨A, l, c, rfl, h1, h2, h3⟩ := rows_open g0
      exact ⟨A, l, c, rfl, h1, h2, h3⟩
end
end Go.Proofs.YtggcmkpafpjnoaaGreatDoor
