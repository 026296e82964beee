/- An argument of type api.Lattice, opened; and the shell of a law's row. -/
import Derived.Test.YtmbgndcahlopdaaGreatRows
import Derived.ProofKit
import Derived.Lib.SmallJoins
import Derived.OpenShut
import Derived.Maps.AppendAt
import Derived.Carry
import Derived.Deep.SlicePairs
import Derived.Test.YtmbgndcahlopdaaGreatGBase
import Derived.Test.YtmbgndcahlopdaaGreatGCodA
import Derived.Test.YtmbgndcahlopdaaGreatGCodE
namespace Go.Proofs.YtmbgndcahlopdaaGreat
set_option maxRecDepth 100000
open Go.ChangeShapes Go.WideShapes Go.ChangeAt Go.RowKit Go.Joins

theorem Tryz.own : ownKnob Tryz.prog.godebug = none := by kernel_rfl
theorem Tryz.laidOut : laidOutB Tryz.prog = true := by kernel_rfl
theorem Tryz.cells25 : Tryz.prog.cellsOf 25 = 2 := by kernel_rfl
theorem Tryz.cells9 : Tryz.prog.cellsOf 9 = 1 := by kernel_rfl
theorem Tryz.cells50 : Tryz.prog.cellsOf 50 = 1 := by kernel_rfl

section
variable {H : Type} {enc : TypeId × Value → H} {W : World}
theorem strs_open {n : Nat} {v : Value} {y : DataW H × List MemPlace} (h : DataW.trod enc Tryz.prog W 0 (fun _ => true) true n 22 [v] = some y) :
    ∃ (A : Option Addr) (names : List ByteArray) (c : Nat), v = .slice A names.length c ∧ Row W W.heap.size A (strs names) ∧ names.length ≤ c ∧ c ≤ maxLen ∧ ∀ s ∈ names, s.size ≤ maxLen := by
  rcases open_strings Tryz.underlying22 Tryz.underlying9 Tryz.cells9 h with ⟨hcs, _⟩ | ⟨a, len, cap, ss, hcs, _, hl, hm, hz, _, hcell, hws⟩
  · injection hcs with hcs _
    exact ⟨none, [], 0, hcs, Row.nil, Nat.le_refl _, by decide, fun s hs => by cases hs⟩
  · injection hcs with hcs _
    simp only [if_true] at hz
    have hlen : (ss.take len).length = len := by simp; omega
    refine ⟨some a, ss.take len, cap, by rw [hlen]; exact hcs, ?_, by rw [hlen]; exact hl, hm, fun s hs => hws s (List.mem_of_mem_take hs)⟩
    intro hne
    have hl0 : 0 < len := by
      rcases Nat.eq_zero_or_pos len with h0 | h0
      · subst h0; exact absurd rfl hne
      · exact h0
    have hcj : ∀ j, j < len → W.cell? (a.add j) = some (.string (ss.getD j ByteArray.empty)) := fun j hj => hcell j (by omega)
    refine ⟨a, rfl, ?_, fun j u hu => ?_⟩
    · have := block_lt_of_cell (hcj 0 hl0)
      rwa [add_block] at this
    · unfold strs at hu
      rw [List.getElem?_map, List.getElem?_take] at hu
      split at hu
      · rename_i hj
        rw [hcj j hj, ← hu, List.getD_eq_getElem?_getD, List.getElem?_eq_getElem (show j < ss.length by omega)]
        rfl
      · cases hu
theorem ups_open {n : Nat} {v : Value} {y : DataW H × List MemPlace} (h : DataW.trod enc Tryz.prog W 0 (fun _ => true) true n 23 [v] = some y) :
    ∃ (A : Option Addr) (up : List Nat) (c : Nat), v = .slice A up.length c ∧ Ups W W.heap.size A up ∧ up.length ≤ c ∧ c ≤ maxLen := by
  rcases open_ints Tryz.underlying23 Tryz.underlying50 Tryz.cells50 h with ⟨hcs, _⟩ | ⟨a, len, cap, zs, hcs, _, hl, hm, hz, _, hcell, hws⟩
  · injection hcs with hcs _
    exact ⟨none, [], 0, hcs, ⟨Row.nil, fun k x hx => by simp at hx⟩, Nat.le_refl _, by decide⟩
  · injection hcs with hcs _
    simp only [if_true] at hz
    have hlen : ((zs.take len).map Int.toNat).length = len := by simp; omega
    have hb : ∀ z ∈ zs, 0 ≤ z ∧ z ≤ 4294967295 := fun z hz => by
      have := hws z hz
      simpa [Lit.wf, IntKind.min, IntKind.max, IntKind.signed, IntKind.bits] using this
    refine ⟨some a, (zs.take len).map Int.toNat, cap, by rw [hlen]; exact hcs, ⟨?_, ?_⟩, by rw [hlen]; exact hl, hm⟩
    · intro hne
      have hl0 : 0 < len := by
        rcases Nat.eq_zero_or_pos len with h0 | h0
        · subst h0; exact absurd rfl hne
        · exact h0
      have hcj : ∀ j, j < len → W.cell? (a.add j) = some (.int .u32 (zs.getD j 0)) := fun j hj => hcell j (by omega)
      refine ⟨a, rfl, ?_, fun j u hu => ?_⟩
      · have := block_lt_of_cell (hcj 0 hl0)
        rwa [add_block] at this
      · unfold u32s at hu
        rw [List.getElem?_map, List.getElem?_map, List.getElem?_take] at hu
        split at hu
        · rename_i hj
          have hjz : j < zs.length := by omega
          rw [hcj j hj, ← hu, List.getD_eq_getElem?_getD, List.getElem?_eq_getElem hjz]
          have := hb zs[j] (List.getElem_mem hjz)
          simp only [Option.getD_some, Option.map_some, Option.some.injEq, Value.int.injEq, true_and]
          omega
        · cases hu
    · intro k x hx
      rw [List.getElem?_map, List.getElem?_take] at hx
      split at hx
      · rename_i hk
        have hkz : k < zs.length := by omega
        rw [List.getElem?_eq_getElem hkz] at hx
        simp only [Option.map_some, Option.some.injEq] at hx
        have := hb zs[k] (List.getElem_mem hkz)
        omega
      · cases hx
theorem lat_open {base : Nat} {v : Value} {d : DataW H} {p : List MemPlace} (hv : Value.okWide Tryz.prog W .any base 25 v) (h : DataW.Trod enc Tryz.prog W 0 (fun _ => true) true 25 v d p) :
    ∃ (A A' : Option Addr) (names : List ByteArray) (up : List Nat) (c c' : Nat), v = .agg #[.slice A names.length c, .slice A' up.length c'] ∧ Row W W.heap.size A (strs names) ∧ Ups W W.heap.size A' up ∧ names.length ≤ c ∧ up.length ≤ c' ∧ c ≤ maxLen ∧ c' ≤ maxLen ∧ ∀ s ∈ names, s.size ≤ maxLen := by
  obtain ⟨v0, v1, y0, y1, n, rfl, _, _, h0, h1⟩ := open_agg2 Tryz.underlying25 (by kernel_rfl) Tryz.cells25 hv h
  obtain ⟨A, names, c, rfl, hr, hc, hm, hs⟩ := strs_open h0
  obtain ⟨A', up, c', rfl, hu, hc', hm'⟩ := ups_open h1
  exact ⟨A, A', names, up, c, c', rfl, hr, hu, hc, hc', hm, hm', hs⟩
end
/-- All arguments read as before, behind a call that only lays new blocks. -/
theorem trodAll_below {H : Type} {enc : TypeId × Value → H} {W W' : World} (hb : Below W.heap.size W W') : ∀ {ts : List TypeId} {vs : List Value} {ds : List (DataW H)} {ps : List MemPlace},
    (∀ t ∈ ts, Tryz.prog.readableRec t = true ∧ t < Tryz.prog.types.size) → DataW.TrodAll enc Tryz.prog W 0 (fun _ => true) true ts vs ds ps → (∀ x ∈ ps, x.block < W.heap.size) →
    DataW.TrodAll enc Tryz.prog W' 0 (fun b => decide (b < W.heap.size)) true ts vs ds ps
  | [], vs, ds, ps, _, h, _ => by
    obtain ⟨rfl, rfl, rfl⟩ := trodAll_nil h
    exact trodAll_mk0
  | t :: ts, vs, ds, ps, hr, h, hlt => by
    obtain ⟨v, vs, d, ds, p, p', rfl, rfl, rfl, h1, h2⟩ := trodAll_cons h
    exact trodAll_cons_mk (Below.trod Tryz.laidOut (hr t List.mem_cons_self).1 (hr t List.mem_cons_self).2 h1 hb (fun x hx => hlt x (List.mem_append_left _ hx))) (trodAll_below hb (fun t ht => hr t (List.mem_cons_of_mem _ ht)) h2 (fun x hx => hlt x (List.mem_append_right _ hx)))
end Go.Proofs.YtmbgndcahlopdaaGreat

/- An argument of type []api.Instr, opened. -/
namespace Go.Proofs.YtmbgndcahlopdaaGreat
set_option maxRecDepth 100000
open Go.ChangeShapes Go.WideShapes Go.ChangeAt Go.RowKit Go.Joins Go.Deep

theorem Tryz.cellsInstr8 : Tryz.prog.cellsOf 58 = 3 := by kernel_rfl
theorem Tryz.cellsInt8 : Tryz.prog.cellsOf 3 = 1 := by kernel_rfl
theorem icells_row {W : World} {a : Addr} {l : List Cd.In} (h : ∀ i t, l[i]? = some t → W.cell? (a.add (i * 3)) = some (.int .i64 t.op) ∧ W.cell? (a.add (i * 3 + 1)) = some (.int .i64 t.n) ∧ W.cell? (a.add (i * 3 + 2)) = some (.int .i64 t.l)) : ∀ j u, (icells l)[j]? = some u → W.cell? (a.add j) = some u := by
  intro j u hu
  have hj : j < l.length * 3 := by
    have := (List.getElem?_eq_some_iff.1 hu).1
    rwa [icells_length] at this
  have hk : j / 3 < l.length := by omega
  have h1 := icells_at l (j / 3) l[j / 3] (List.getElem?_eq_getElem hk)
  have h2 := h (j / 3) l[j / 3] (List.getElem?_eq_getElem hk)
  have hm : j = j / 3 * 3 ∨ j = j / 3 * 3 + 1 ∨ j = j / 3 * 3 + 2 := by omega
  rcases hm with e | e | e
  · rw [e] at hu ⊢
    rw [h1.1] at hu
    rw [← hu]
    exact h2.1
  · rw [e] at hu ⊢
    rw [h1.2.1] at hu
    rw [← hu]
    exact h2.2.1
  · rw [e] at hu ⊢
    rw [h1.2.2] at hu
    rw [← hu]
    exact h2.2.2
instance : Inhabited Cd.In := ⟨⟨0, 0, 0⟩⟩
section
variable {H : Type} {enc : TypeId × Value → H} {W : World}
theorem instrs_open {n : Nat} {v : Value} {y : DataW H × List MemPlace} (h : DataW.trod enc Tryz.prog W 0 (fun _ => true) true n 31 [v] = some y) :
    ∃ (A : Option Addr) (l : List Cd.In) (c : Nat), v = .slice A l.length c ∧ Row W W.heap.size A (icells l) ∧ l.length ≤ c ∧ c ≤ maxLen := by
  rcases open_slice Tryz.underlying31 h with ⟨hcs, _⟩ | ⟨a, len, cap, m, n, D, Pl, hcs, _, hl, hm, hz, _, hi⟩
  · injection hcs with hcs _
    exact ⟨none, [], 0, hcs, Row.nil, Nat.le_refl _, by decide⟩
  · injection hcs with hcs _
    simp only [if_true] at hz
    subst hz
    have each : ∀ i, i < m → ∃ t : Cd.In, (W.cell? (a.add (i * 3)) = some (.int .i64 t.op) ∧ W.cell? (a.add (i * 3 + 1)) = some (.int .i64 t.n) ∧ W.cell? (a.add (i * 3 + 2)) = some (.int .i64 t.l)) := by
      intro i him
      obtain ⟨cs', h1, h2⟩ := hi i him
      rw [Tryz.cellsInstr8] at h1
      obtain ⟨_, hlen, hcell⟩ := World.cells?_some h1
      obtain ⟨xs, k, _, _, _, hxl, hf⟩ := DataW.trod_struct Tryz.underlying58 h2
      match xs, hxl, cs', hlen with
      | [y0, y1, y2], _, [v0, v1, v2], _ =>
        have g0 := hf 0 _ rfl
        have g1 := hf 1 _ rfl
        have g2 := hf 2 _ rfl
        simp [Tryz.cellsInt8] at g0 g1 g2
        have e0 := hcell 0 (by omega)
        have e1 := hcell 1 (by omega)
        have e2 := hcell 2 (by omega)
        rw [add_add] at e0 e1 e2
        obtain ⟨n0, h0, _⟩ := DataW.trod_int Tryz.underlying3 g0
        obtain ⟨n1, h1', _⟩ := DataW.trod_int Tryz.underlying3 g1
        obtain ⟨n2, h2', _⟩ := DataW.trod_int Tryz.underlying3 g2
        injection h0 with h0 _
        injection h1' with h1' _
        injection h2' with h2' _
        subst h0 h1' h2'
        exact ⟨⟨n0, n1, n2⟩, by simpa using e0, by simpa using e1, by simpa using e2⟩
    obtain ⟨q, hq⟩ := choose_lt each
    have hlen : ((List.range len).map q).length = len := by simp
    refine ⟨some a, (List.range len).map q, m, by rw [hlen]; exact hcs, ?_, by rw [hlen]; exact hl, hm⟩
    intro hne
    have hl0 : 0 < len := by
      rcases Nat.eq_zero_or_pos len with h0 | h0
      · subst h0; exact absurd rfl hne
      · exact h0
    refine ⟨a, rfl, ?_, icells_row fun i t ht => ?_⟩
    · have := block_lt_of_cell (hq 0 (by omega)).1
      rwa [add_block] at this
    · have hi' : i < len := by have := (List.getElem?_eq_some_iff.1 ht).1; simpa using this
      rw [List.getElem?_map, List.getElem?_range hi'] at ht
      injection ht with ht
      subst ht
      exact hq i (by omega)
end
end Go.Proofs.YtmbgndcahlopdaaGreat

/- An argument of type api.State, opened (by gen_openx.py). -/
namespace Go.Proofs.YtmbgndcahlopdaaGreat
set_option maxRecDepth 100000
open Go.ChangeShapes Go.WideShapes Go.ChangeAt Go.RowKit Go.Joins Go.Deep

theorem Tryz.cellsAtom9 : Tryz.prog.cellsOf 30 = 2 := by kernel_rfl
theorem Tryz.cellsSlot9 : Tryz.prog.cellsOf 61 = 3 := by kernel_rfl
theorem Tryz.cellsBool9 : Tryz.prog.cellsOf 4 = 1 := by kernel_rfl
theorem Tryz.cellsState9 : Tryz.prog.cellsOf 35 = 6 := by kernel_rfl
theorem Tryz.cellsIns9 : Tryz.prog.cellsOf 31 = 1 := by kernel_rfl
theorem Tryz.cellsAts9 : Tryz.prog.cellsOf 32 = 1 := by kernel_rfl
theorem Tryz.cellsSls9 : Tryz.prog.cellsOf 33 = 1 := by kernel_rfl
theorem fcells_row {α : Type} {f : α → List Value} {m : Nat} (hf : ∀ x, (f x).length = m) (hm : 0 < m) {W : World} {a : Addr} {l : List α} (h : ∀ i t, l[i]? = some t → ∀ j u, (f t)[j]? = some u → W.cell? (a.add (i * m + j)) = some u) : ∀ j u, (fcells f l)[j]? = some u → W.cell? (a.add j) = some u := by
  intro j u hu
  have hj : j < l.length * m := by
    have := (List.getElem?_eq_some_iff.1 hu).1
    rwa [fcells_length hf] at this
  have hk : j / m < l.length := (Nat.div_lt_iff_lt_mul hm).2 hj
  have hr : j % m < m := Nat.mod_lt _ hm
  have h1 := fcells_at hf l (j / m) l[j / m] (List.getElem?_eq_getElem hk) (j % m) hr
  have e : j / m * m + j % m = j := by rw [Nat.mul_comm]; exact Nat.div_add_mod j m
  rw [e] at h1
  have h2 := h (j / m) l[j / m] (List.getElem?_eq_getElem hk) (j % m) u (by rw [← h1]; exact hu)
  rwa [e] at h2
instance : Inhabited St.Atom := ⟨⟨0, 0⟩⟩
instance : Inhabited St.Slot := ⟨⟨false, 0, 0⟩⟩
section
variable {H : Type} {enc : TypeId × Value → H} {W : World}
theorem atoms_open {n : Nat} {v : Value} {y : DataW H × List MemPlace} (h : DataW.trod enc Tryz.prog W 0 (fun _ => true) true n 32 [v] = some y) :
    ∃ (A : Option Addr) (l : List St.Atom) (c : Nat), v = .slice A l.length c ∧ Row W W.heap.size A (fcells avs l) ∧ l.length ≤ c ∧ c ≤ maxLen := by
  rcases open_slice Tryz.underlying32 h with ⟨hcs, _⟩ | ⟨a, len, cap, m, n, D, Pl, hcs, _, hl, hm, hz, _, hi⟩
  · injection hcs with hcs _
    exact ⟨none, [], 0, hcs, Row.nil, Nat.le_refl _, by decide⟩
  · injection hcs with hcs _
    simp only [if_true] at hz
    subst hz
    have each : ∀ i, i < m → ∃ t : St.Atom, ∀ j u, (avs t)[j]? = some u → W.cell? (a.add (i * 2 + j)) = some u := by
      intro i him
      obtain ⟨cs', h1, h2⟩ := hi i him
      rw [Tryz.cellsAtom9] at h1
      obtain ⟨_, hlen, hcell⟩ := World.cells?_some h1
      obtain ⟨xs, k, _, _, _, hxl, hf⟩ := DataW.trod_struct Tryz.underlying30 h2
      match xs, hxl, cs', hlen with
      | [y0, y1], _, [v0, v1], _ =>
        have g0 := hf 0 _ rfl
        have g1 := hf 1 _ rfl
        simp [Tryz.cellsInt8] at g0 g1
        have e0 := hcell 0 (by omega)
        have e1 := hcell 1 (by omega)
        rw [add_add] at e0 e1
        obtain ⟨n0, h0', _⟩ := DataW.trod_int Tryz.underlying3 g0
        injection h0' with h0' _
        subst h0'
        obtain ⟨n1, h1', _⟩ := DataW.trod_int Tryz.underlying3 g1
        injection h1' with h1' _
        subst h1'
        refine ⟨⟨n0, n1⟩, fun j u hu => ?_⟩
        rcases j with _ | _ | j
        · simp [avs] at hu; subst hu; simpa using e0
        · simp [avs] at hu; subst hu; simpa using e1
        · simp [avs] at hu
    obtain ⟨q, hq⟩ := choose_lt each
    have hlen : ((List.range len).map q).length = len := by simp
    refine ⟨some a, (List.range len).map q, m, by rw [hlen]; exact hcs, ?_, by rw [hlen]; exact hl, hm⟩
    intro hne
    have hl0 : 0 < len := by
      rcases Nat.eq_zero_or_pos len with h0 | h0
      · subst h0; exact absurd rfl hne
      · exact h0
    refine ⟨a, rfl, ?_, fcells_row avs_len (by decide) fun i t ht => ?_⟩
    · have := block_lt_of_cell (hq 0 (by omega) 0 _ rfl)
      rwa [add_block] at this
    · have hi' : i < len := by have := (List.getElem?_eq_some_iff.1 ht).1; simpa using this
      rw [List.getElem?_map, List.getElem?_range hi'] at ht
      injection ht with ht
      subst ht
      exact hq i (by omega)
theorem slots_open {n : Nat} {v : Value} {y : DataW H × List MemPlace} (h : DataW.trod enc Tryz.prog W 0 (fun _ => true) true n 33 [v] = some y) :
    ∃ (A : Option Addr) (l : List St.Slot) (c : Nat), v = .slice A l.length c ∧ Row W W.heap.size A (fcells svs l) ∧ l.length ≤ c ∧ c ≤ maxLen := by
  rcases open_slice Tryz.underlying33 h with ⟨hcs, _⟩ | ⟨a, len, cap, m, n, D, Pl, hcs, _, hl, hm, hz, _, hi⟩
  · injection hcs with hcs _
    exact ⟨none, [], 0, hcs, Row.nil, Nat.le_refl _, by decide⟩
  · injection hcs with hcs _
    simp only [if_true] at hz
    subst hz
    have each : ∀ i, i < m → ∃ t : St.Slot, ∀ j u, (svs t)[j]? = some u → W.cell? (a.add (i * 3 + j)) = some u := by
      intro i him
      obtain ⟨cs', h1, h2⟩ := hi i him
      rw [Tryz.cellsSlot9] at h1
      obtain ⟨_, hlen, hcell⟩ := World.cells?_some h1
      obtain ⟨xs, k, _, _, _, hxl, hf⟩ := DataW.trod_struct Tryz.underlying61 h2
      match xs, hxl, cs', hlen with
      | [y0, y1, y2], _, [v0, v1, v2], _ =>
        have g0 := hf 0 _ rfl
        have g1 := hf 1 _ rfl
        have g2 := hf 2 _ rfl
        simp [Tryz.cellsInt8, Tryz.cellsBool9] at g0 g1 g2
        have e0 := hcell 0 (by omega)
        have e1 := hcell 1 (by omega)
        have e2 := hcell 2 (by omega)
        rw [add_add] at e0 e1 e2
        obtain ⟨n0, h0', _⟩ := DataW.trod_bool Tryz.underlying4 g0
        injection h0' with h0' _
        subst h0'
        obtain ⟨n1, h1', _⟩ := DataW.trod_int Tryz.underlying3 g1
        injection h1' with h1' _
        subst h1'
        obtain ⟨n2, h2', _⟩ := DataW.trod_int Tryz.underlying3 g2
        injection h2' with h2' _
        subst h2'
        refine ⟨⟨n0, n1, n2⟩, fun j u hu => ?_⟩
        rcases j with _ | _ | _ | j
        · simp [svs] at hu; subst hu; simpa using e0
        · simp [svs] at hu; subst hu; simpa using e1
        · simp [svs] at hu; subst hu; simpa using e2
        · simp [svs] at hu
    obtain ⟨q, hq⟩ := choose_lt each
    have hlen : ((List.range len).map q).length = len := by simp
    refine ⟨some a, (List.range len).map q, m, by rw [hlen]; exact hcs, ?_, by rw [hlen]; exact hl, hm⟩
    intro hne
    have hl0 : 0 < len := by
      rcases Nat.eq_zero_or_pos len with h0 | h0
      · subst h0; exact absurd rfl hne
      · exact h0
    refine ⟨a, rfl, ?_, fcells_row svs_len (by decide) fun i t ht => ?_⟩
    · have := block_lt_of_cell (hq 0 (by omega) 0 _ rfl)
      rwa [add_block] at this
    · have hi' : i < len := by have := (List.getElem?_eq_some_iff.1 ht).1; simpa using this
      rw [List.getElem?_map, List.getElem?_range hi'] at ht
      injection ht with ht
      subst ht
      exact hq i (by omega)
theorem state_open_arg {base : Nat} {v : Value} {d : DataW H} {p : List MemPlace} (hv : Value.okWide Tryz.prog W .any base 35 v) (h : DataW.Trod enc Tryz.prog W 0 (fun _ => true) true 35 v d p) :
    ∃ (s : St.State) (cA mA sA oA : Option Addr) (cc mc sc oc : Nat), v = incv s cA cc mA mc sA sc oA oc ∧ StIn W W.heap.size s cA cc mA mc sA sc oA oc := by
  obtain ⟨cs, rfl, hsz⟩ := okWide_struct Tryz.underlying35 hv
  rw [Tryz.cellsState9] at hsz
  obtain ⟨l0⟩ := cs
  match l0, hsz with
  | [v0, v1, v2, v3, v4, v5], _ =>
    obtain ⟨n, h⟩ := h
    obtain ⟨xs, k, _, _, _, hxl, hf⟩ := DataW.trod_struct Tryz.underlying35 h
    match xs, hxl with
    | [y0, y1, y2, y3, y4], _ =>
      have g0 := hf 0 _ rfl
      have g1 := hf 1 _ rfl
      have g2 := hf 2 _ rfl
      have g3 := hf 3 _ rfl
      have g4 := hf 4 _ rfl
      simp [Tryz.cellsAtom9, Tryz.cellsIns9, Tryz.cellsAts9, Tryz.cellsSls9, Value.cells] at g0 g1 g2 g3 g4
      obtain ⟨xs', k', _, _, _, hxl', hf'⟩ := DataW.trod_struct Tryz.underlying30 g0
      match xs', hxl' with
      | [z0, z1], _ =>
        have e0 := hf' 0 _ rfl
        have e1 := hf' 1 _ rfl
        simp [Tryz.cellsInt8] at e0 e1
        obtain ⟨n0, h0, _⟩ := DataW.trod_int Tryz.underlying3 e0
        obtain ⟨n1, h1, _⟩ := DataW.trod_int Tryz.underlying3 e1
        injection h0 with h0 _
        injection h1 with h1 _
        subst h0 h1
        obtain ⟨A1, l1, c1, rfl, r1⟩ := instrs_open g1
        obtain ⟨A2, l2, c2, rfl, r2⟩ := atoms_open g2
        obtain ⟨A3, l3, c3, rfl, r3⟩ := slots_open g3
        obtain ⟨A4, l4, c4, rfl, r4⟩ := atoms_open g4
        exact ⟨⟨⟨n0, n1⟩, l1, l2, l3, l4⟩, A1, A2, A3, A4, c1, c2, c3, c4, rfl, ⟨r1, r2, r3, r4⟩⟩
end
end Go.Proofs.YtmbgndcahlopdaaGreat
