/- An argument of type api.Lattice, opened; and the shell of a law's row. -/
import Derived.Test.YtmbgndcahlopdaaRows
import Derived.ProofKit
import Derived.Lib.SmallJoins
import Derived.OpenShut
import Derived.Maps.AppendAt
import Derived.Carry
import Derived.Test.YtmbgndcahlopdaaGBase
namespace Go.Proofs.Ytmbgndcahlopdaa
set_option maxRecDepth 100000
open Go.ChangeShapes Go.WideShapes Go.ChangeAt Go.RowKit Go.Joins

theorem Try.own : ownKnob Try.prog.godebug = none := by kernel_rfl
theorem Try.laidOut : laidOutB Try.prog = true := by kernel_rfl
theorem Try.cells25 : Try.prog.cellsOf 25 = 2 := by kernel_rfl
theorem Try.cells9 : Try.prog.cellsOf 9 = 1 := by kernel_rfl
theorem Try.cells63 : Try.prog.cellsOf 63 = 1 := by kernel_rfl

section
variable {H : Type} {enc : TypeId × Value → H} {W : World}
theorem strs_open {n : Nat} {v : Value} {y : DataW H × List MemPlace} (h : DataW.trod enc Try.prog W 0 (fun _ => true) true n 22 [v] = some y) :
    ∃ (A : Option Addr) (names : List ByteArray) (c : Nat), v = .slice A names.length c ∧ Row W W.heap.size A (strs names) ∧ names.length ≤ c ∧ c ≤ maxLen ∧ ∀ s ∈ names, s.size ≤ maxLen := by
  rcases open_strings Try.underlying22 Try.underlying9 Try.cells9 h with ⟨hcs, _⟩ | ⟨a, len, cap, ss, hcs, _, hl, hm, hz, _, hcell, hws⟩
  · injection hcs with hcs _
    exact ⟨none, [], 0, hcs, Row.nil, Nat.le_refl _, by decide, fun s hs => by cases hs⟩
  · injection hcs with hcs _
    simp only [if_true] at hz
    have hlen : (ss.take len).length = len := by simp; omega
    refine ⟨some a, ss.take len, cap, by rw [hlen]; exact hcs, ?_, by rw [hlen]; exact hl, hm, fun s hs => hws s (List.mem_of_mem_take hs)⟩
    intro hne
    have hl0 : 0 < len := by
      rcases Nat.eq_zero_or_pos len with h0 | h0
      · subst h0; exact absurd rfl hne
      · exact h0
    have hcj : ∀ j, j < len → W.cell? (a.add j) = some (.string (ss.getD j ByteArray.empty)) := fun j hj => hcell j (by omega)
    refine ⟨a, rfl, ?_, fun j u hu => ?_⟩
    · have := block_lt_of_cell (hcj 0 hl0)
      rwa [add_block] at this
    · unfold strs at hu
      rw [List.getElem?_map, List.getElem?_take] at hu
      split at hu
      · rename_i hj
        rw [hcj j hj, ← hu, List.getD_eq_getElem?_getD, List.getElem?_eq_getElem (show j < ss.length by omega)]
        rfl
      · cases hu
theorem ups_open {n : Nat} {v : Value} {y : DataW H × List MemPlace} (h : DataW.trod enc Try.prog W 0 (fun _ => true) true n 23 [v] = some y) :
    ∃ (A : Option Addr) (up : List Nat) (c : Nat), v = .slice A up.length c ∧ Ups W W.heap.size A up ∧ up.length ≤ c ∧ c ≤ maxLen := by
  rcases open_ints Try.underlying23 Try.underlying63 Try.cells63 h with ⟨hcs, _⟩ | ⟨a, len, cap, zs, hcs, _, hl, hm, hz, _, hcell, hws⟩
  · injection hcs with hcs _
    exact ⟨none, [], 0, hcs, ⟨Row.nil, fun k x hx => by simp at hx⟩, Nat.le_refl _, by decide⟩
  · injection hcs with hcs _
    simp only [if_true] at hz
    have hlen : ((zs.take len).map Int.toNat).length = len := by simp; omega
    have hb : ∀ z ∈ zs, 0 ≤ z ∧ z ≤ 4294967295 := fun z hz => by
      have := hws z hz
      simpa [Lit.wf, IntKind.min, IntKind.max, IntKind.signed, IntKind.bits] using this
    refine ⟨some a, (zs.take len).map Int.toNat, cap, by rw [hlen]; exact hcs, ⟨?_, ?_⟩, by rw [hlen]; exact hl, hm⟩
    · intro hne
      have hl0 : 0 < len := by
        rcases Nat.eq_zero_or_pos len with h0 | h0
        · subst h0; exact absurd rfl hne
        · exact h0
      have hcj : ∀ j, j < len → W.cell? (a.add j) = some (.int .u32 (zs.getD j 0)) := fun j hj => hcell j (by omega)
      refine ⟨a, rfl, ?_, fun j u hu => ?_⟩
      · have := block_lt_of_cell (hcj 0 hl0)
        rwa [add_block] at this
      · unfold u32s at hu
        rw [List.getElem?_map, List.getElem?_map, List.getElem?_take] at hu
        split at hu
        · rename_i hj
          have hjz : j < zs.length := by omega
          rw [hcj j hj, ← hu, List.getD_eq_getElem?_getD, List.getElem?_eq_getElem hjz]
          have := hb zs[j] (List.getElem_mem hjz)
          simp only [Option.getD_some, Option.map_some, Option.some.injEq, Value.int.injEq, true_and]
          omega
        · cases hu
    · intro k x hx
      rw [List.getElem?_map, List.getElem?_take] at hx
      split at hx
      · rename_i hk
        have hkz : k < zs.length := by omega
        rw [List.getElem?_eq_getElem hkz] at hx
        simp only [Option.map_some, Option.some.injEq] at hx
        have := hb zs[k] (List.getElem_mem hkz)
        omega
      · cases hx
theorem lat_open {base : Nat} {v : Value} {d : DataW H} {p : List MemPlace} (hv : Value.okWide Try.prog W .any base 25 v) (h : DataW.Trod enc Try.prog W 0 (fun _ => true) true 25 v d p) :
    ∃ (A A' : Option Addr) (names : List ByteArray) (up : List Nat) (c c' : Nat), v = .agg #[.slice A names.length c, .slice A' up.length c'] ∧ Row W W.heap.size A (strs names) ∧ Ups W W.heap.size A' up ∧ names.length ≤ c ∧ up.length ≤ c' ∧ c ≤ maxLen ∧ c' ≤ maxLen ∧ ∀ s ∈ names, s.size ≤ maxLen := by
  obtain ⟨v0, v1, y0, y1, n, rfl, _, _, h0, h1⟩ := open_agg2 Try.underlying25 (by kernel_rfl) Try.cells25 hv h
  obtain ⟨A, names, c, rfl, hr, hc, hm, hs⟩ := strs_open h0
  obtain ⟨A', up, c', rfl, hu, hc', hm'⟩ := ups_open h1
  exact ⟨A, A', names, up, c, c', rfl, hr, hu, hc, hc', hm, hm', hs⟩
end
/-- All arguments read as before, behind a call that only lays new blocks. -/
theorem trodAll_below {H : Type} {enc : TypeId × Value → H} {W W' : World} (hb : Below W.heap.size W W') : ∀ {ts : List TypeId} {vs : List Value} {ds : List (DataW H)} {ps : List MemPlace},
    (∀ t ∈ ts, Try.prog.readableRec t = true ∧ t < Try.prog.types.size) → DataW.TrodAll enc Try.prog W 0 (fun _ => true) true ts vs ds ps → (∀ x ∈ ps, x.block < W.heap.size) →
    DataW.TrodAll enc Try.prog W' 0 (fun b => decide (b < W.heap.size)) true ts vs ds ps
  | [], vs, ds, ps, _, h, _ => by
    obtain ⟨rfl, rfl, rfl⟩ := trodAll_nil h
    exact trodAll_mk0
  | t :: ts, vs, ds, ps, hr, h, hlt => by
    obtain ⟨v, vs, d, ds, p, p', rfl, rfl, rfl, h1, h2⟩ := trodAll_cons h
    exact trodAll_cons_mk (Below.trod Try.laidOut (hr t List.mem_cons_self).1 (hr t List.mem_cons_self).2 h1 hb (fun x hx => hlt x (List.mem_append_left _ hx))) (trodAll_below hb (fun t ht => hr t (List.mem_cons_of_mem _ ht)) h2 (fun x hx => hlt x (List.mem_append_right _ hx)))
end Go.Proofs.Ytmbgndcahlopdaa
