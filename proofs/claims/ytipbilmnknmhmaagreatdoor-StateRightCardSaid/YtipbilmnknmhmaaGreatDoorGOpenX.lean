/- An argument of type api.State, opened (by gen_openx.py). -/
import Derived.Test.YtipbilmnknmhmaaGreatDoorGOpenS
import Derived.Test.YtipbilmnknmhmaaGreatDoorGStmJ
namespace Go.Proofs.YtipbilmnknmhmaaGreatDoor
set_option maxRecDepth 100000
open Go.ChangeShapes Go.WideShapes Go.ChangeAt Go.RowKit Go.Joins Go.Deep

theorem Tryz.cellsAtom9 : Tryz.prog.cellsOf 38 = 2 := by kernel_rfl
theorem Tryz.cellsSlot9 : Tryz.prog.cellsOf 73 = 3 := by kernel_rfl
theorem Tryz.cellsBool9 : Tryz.prog.cellsOf 4 = 1 := by kernel_rfl
theorem Tryz.cellsState9 : Tryz.prog.cellsOf 42 = 6 := by kernel_rfl
theorem Tryz.cellsIns9 : Tryz.prog.cellsOf 26 = 1 := by kernel_rfl
theorem Tryz.cellsAts9 : Tryz.prog.cellsOf 39 = 1 := by kernel_rfl
theorem Tryz.cellsSls9 : Tryz.prog.cellsOf 40 = 1 := by kernel_rfl
theorem fcells_row {α : Type} {f : α → List Value} {m : Nat} (hf : ∀ x, (f x).length = m) (hm : 0 < m) {W : World} {a : Addr} {l : List α} (h : ∀ i t, l[i]? = some t → ∀ j u, (f t)[j]? = some u → W.cell? (a.add (i * m + j)) = some u) : ∀ j u, (fcells f l)[j]? = some u → W.cell? (a.add j) = some u := by
  intro j u hu
  have hj : j < l.length * m := by
    have := (List.getElem?_eq_some_iff.1 hu).1
    rwa [fcells_length hf] at this
  have hk : j / m < l.length := (Nat.div_lt_iff_lt_mul hm).2 hj
  have hr : j % m < m := Nat.mod_lt _ hm
  have h1 := fcells_at hf l (j / m) l[j / m] (List.getElem?_eq_getElem hk) (j % m) hr
  have e : j / m * m + j % m = j := by rw [Nat.mul_comm]; exact Nat.div_add_mod j m
  rw [e] at h1
  have h2 := h (j / m) l[j / m] (List.getElem?_eq_getElem hk) (j % m) u (by rw [← h1]; exact hu)
  rwa [e] at h2
instance : Inhabited St.Atom := ⟨⟨0, 0⟩⟩
instance : Inhabited St.Slot := ⟨⟨false, 0, 0⟩⟩
section
variable {H : Type} {enc : TypeId × Value → H} {W : World}
theorem atoms_open {n : Nat} {v : Value} {y : DataW H × List MemPlace} (h : DataW.trod enc Tryz.prog W 0 (fun _ => true) true n 39 [v] = some y) :
    ∃ (A : Option Addr) (l : List St.Atom) (c : Nat), v = .slice A l.length c ∧ Row W W.heap.size A (fcells avs l) ∧ l.length ≤ c ∧ c ≤ maxLen := by
  rcases open_slice Tryz.underlying39 h with ⟨hcs, _⟩ | ⟨a, len, cap, m, n, D, Pl, hcs, _, hl, hm, hz, _, hi⟩
  · injection hcs with hcs _
    exact ⟨none, [], 0, hcs, Row.nil, Nat.le_refl _, by decide⟩
  · injection hcs with hcs _
    simp only [if_true] at hz
    subst hz
    have each : ∀ i, i < m → ∃ t : St.Atom, ∀ j u, (avs t)[j]? = some u → W.cell? (a.add (i * 2 + j)) = some u := by
      intro i him
      obtain ⟨cs', h1, h2⟩ := hi i him
      rw [Tryz.cellsAtom9] at h1
      obtain ⟨_, hlen, hcell⟩ := World.cells?_some h1
      obtain ⟨xs, k, _, _, _, hxl, hf⟩ := DataW.trod_struct Tryz.underlying38 h2
      match xs, hxl, cs', hlen with
      | [y0, y1], _, [v0, v1], _ =>
        have g0 := hf 0 _ rfl
        have g1 := hf 1 _ rfl
        simp [Tryz.cellsInt8, Tryz.cellsBool9] at g0 g1
        have e0 := hcell 0 (by omega)
        have e1 := hcell 1 (by omega)
        rw [add_add] at e0 e1
        obtain ⟨n0, h0', _⟩ := DataW.trod_int Tryz.underlying3 g0
        injection h0' with h0' _
        subst h0'
        obtain ⟨n1, h1', _⟩ := DataW.trod_int Tryz.underlying3 g1
        injection h1' with h1' _
        subst h1'
        refine ⟨⟨n0, n1⟩, fun j u hu => ?_⟩
        rcases j with _ | _ | j
        · simp [avs] at hu; subst hu; simpa using e0
        · simp [avs] at hu; subst hu; simpa using e1
        · simp [avs] at hu
    obtain ⟨q, hq⟩ := choose_lt each
    have hlen : ((List.range len).map q).length = len := by simp
    refine ⟨some a, (List.range len).map q, m, by rw [hlen]; exact hcs, ?_, by rw [hlen]; exact hl, hm⟩
    intro hne
    have hl0 : 0 < len := by
      rcases Nat.eq_zero_or_pos len with h0 | h0
      · subst h0; exact absurd rfl hne
      · exact h0
    refine ⟨a, rfl, ?_, fcells_row avs_len (by decide) fun i t ht => ?_⟩
    · have := block_lt_of_cell (hq 0 (by omega) 0 _ rfl)
      rwa [add_block] at this
    · have hi' : i < len := by have := (List.getElem?_eq_some_iff.1 ht).1; simpa using this
      rw [List.getElem?_map, List.getElem?_range hi'] at ht
      injection ht with ht
      subst ht
      exact hq i (by omega)
theorem slots_open {n : Nat} {v : Value} {y : DataW H × List MemPlace} (h : DataW.trod enc Tryz.prog W 0 (fun _ => true) true n 40 [v] = some y) :
    ∃ (A : Option Addr) (l : List St.Slot) (c : Nat), v = .slice A l.length c ∧ Row W W.heap.size A (fcells svs l) ∧ l.length ≤ c ∧ c ≤ maxLen := by
  rcases open_slice Tryz.underlying40 h with ⟨hcs, _⟩ | ⟨a, len, cap, m, n, D, Pl, hcs, _, hl, hm, hz, _, hi⟩
  · injection hcs with hcs _
    exact ⟨none, [], 0, hcs, Row.nil, Nat.le_refl _, by decide⟩
  · injection hcs with hcs _
    simp only [if_true] at hz
    subst hz
    have each : ∀ i, i < m → ∃ t : St.Slot, ∀ j u, (svs t)[j]? = some u → W.cell? (a.add (i * 3 + j)) = some u := by
      intro i him
      obtain ⟨cs', h1, h2⟩ := hi i him
      rw [Tryz.cellsSlot9] at h1
      obtain ⟨_, hlen, hcell⟩ := World.cells?_some h1
      obtain ⟨xs, k, _, _, _, hxl, hf⟩ := DataW.trod_struct Tryz.underlying73 h2
      match xs, hxl, cs', hlen with
      | [y0, y1, y2], _, [v0, v1, v2], _ =>
        have g0 := hf 0 _ rfl
        have g1 := hf 1 _ rfl
        have g2 := hf 2 _ rfl
        simp [Tryz.cellsInt8, Tryz.cellsBool9] at g0 g1 g2
        have e0 := hcell 0 (by omega)
        have e1 := hcell 1 (by omega)
        have e2 := hcell 2 (by omega)
        rw [add_add] at e0 e1 e2
        obtain ⟨n0, h0', _⟩ := DataW.trod_bool Tryz.underlying4 g0
        injection h0' with h0' _
        subst h0'
        obtain ⟨n1, h1', _⟩ := DataW.trod_int Tryz.underlying3 g1
        injection h1' with h1' _
        subst h1'
        obtain ⟨n2, h2', _⟩ := DataW.trod_int Tryz.underlying3 g2
        injection h2' with h2' _
        subst h2'
        refine ⟨⟨n0, n1, n2⟩, fun j u hu => ?_⟩
        rcases j with _ | _ | _ | j
        · simp [svs] at hu; subst hu; simpa using e0
        · simp [svs] at hu; subst hu; simpa using e1
        · simp [svs] at hu; subst hu; simpa using e2
        · simp [svs] at hu
    obtain ⟨q, hq⟩ := choose_lt each
    have hlen : ((List.range len).map q).length = len := by simp
    refine ⟨some a, (List.range len).map q, m, by rw [hlen]; exact hcs, ?_, by rw [hlen]; exact hl, hm⟩
    intro hne
    have hl0 : 0 < len := by
      rcases Nat.eq_zero_or_pos len with h0 | h0
      · subst h0; exact absurd rfl hne
      · exact h0
    refine ⟨a, rfl, ?_, fcells_row svs_len (by decide) fun i t ht => ?_⟩
    · have := block_lt_of_cell (hq 0 (by omega) 0 _ rfl)
      rwa [add_block] at this
    · have hi' : i < len := by have := (List.getElem?_eq_some_iff.1 ht).1; simpa using this
      rw [List.getElem?_map, List.getElem?_range hi'] at ht
      injection ht with ht
      subst ht
      exact hq i (by omega)
theorem state_open_arg {base : Nat} {v : Value} {d : DataW H} {p : List MemPlace} (hv : Value.okWide Tryz.prog W .any base 42 v) (h : DataW.Trod enc Tryz.prog W 0 (fun _ => true) true 42 v d p) :
    ∃ (s : St.State) (cA mA sA oA : Option Addr) (cc mc sc oc : Nat), v = incv s cA cc mA mc sA sc oA oc ∧ StIn W W.heap.size s cA cc mA mc sA sc oA oc := by
  obtain ⟨cs, rfl, hsz⟩ := okWide_struct Tryz.underlying42 hv
  rw [Tryz.cellsState9] at hsz
  obtain ⟨l0⟩ := cs
  match l0, hsz with
  | [v0, v1, v2, v3, v4, v5], _ =>
    obtain ⟨n, h⟩ := h
    obtain ⟨xs, k, _, _, _, hxl, hf⟩ := DataW.trod_struct Tryz.underlying42 h
    match xs, hxl with
    | [y0, y1, y2, y3, y4], _ =>
      have g0 := hf 0 _ rfl
      have g1 := hf 1 _ rfl
      have g2 := hf 2 _ rfl
      have g3 := hf 3 _ rfl
      have g4 := hf 4 _ rfl
      simp [Tryz.cellsAtom9, Tryz.cellsIns9, Tryz.cellsAts9, Tryz.cellsSls9, Value.cells] at g0 g1 g2 g3 g4
      obtain ⟨xs', k', _, _, _, hxl', hf'⟩ := DataW.trod_struct Tryz.underlying38 g0
      match xs', hxl' with
      | [z0, z1], _ =>
        have e0 := hf' 0 _ rfl
        have e1 := hf' 1 _ rfl
        simp [Tryz.cellsInt8] at e0 e1
        obtain ⟨n0, h0, _⟩ := DataW.trod_int Tryz.underlying3 e0
        obtain ⟨n1, h1, _⟩ := DataW.trod_int Tryz.underlying3 e1
        injection h0 with h0 _
        injection h1 with h1 _
        subst h0 h1
        obtain ⟨A1, l1, c1, rfl, r1⟩ := instrs_open g1
        obtain ⟨A2, l2, c2, rfl, r2⟩ := atoms_open g2
        obtain ⟨A3, l3, c3, rfl, r3⟩ := slots_open g3
        obtain ⟨A4, l4, c4, rfl, r4⟩ := atoms_open g4
        exact ⟨⟨⟨n0, n1⟩, l1, l2, l3, l4⟩, A1, A2, A3, A4, c1, c2, c3, c4, rfl, ⟨r1, r2, r3, r4⟩⟩
end
end Go.Proofs.YtipbilmnknmhmaaGreatDoor
