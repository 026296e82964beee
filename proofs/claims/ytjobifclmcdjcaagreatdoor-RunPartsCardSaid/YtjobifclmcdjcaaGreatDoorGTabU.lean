/- The walk of the laws' few: a table, cut. -/
import Derived.Deep.RegionLaw
import Derived.Maps.AppendAt
import Derived.Test.YtjobifclmcdjcaaGreatDoorGShoA
import Derived.Test.YtjobifclmcdjcaaGreatDoorGFree
namespace Go.Proofs.YtjobifclmcdjcaaGreatDoor
set_option maxRecDepth 100000
open Go.RowKit Go.Shelf
attribute [local go_sem] Oper.semAt_some

theorem Tryz.infoRow : (Tryz.prog.info? 55).map (fun i => (i.zero, i.size, i.bytes)) = some (some (.agg #[.slice none 0 0, .slice none 0 0, .slice none 0 0]), 3, 72) := by kernel_rfl
def cutR6 (x : Tb.PR) : Tb.PR := ⟨x.m.take 45, x.r.take 45, x.p.take 45⟩
def fewT (l : List Tb.PR) : List Tb.PR := (l.take 15).map cutR6
theorem fewT_small (l : List Tb.PR) : ∀ x ∈ fewT l, Small x := fun x hx k => by
  obtain ⟨y, _, rfl⟩ := List.mem_map.1 hx
  unfold Tb.PR.nth cutR6
  by_cases e0 : k = 0
  · rw [if_pos e0]; simp; omega
  · rw [if_neg e0]
    by_cases e1 : k = 1
    · rw [if_pos e1]; simp; omega
    · rw [if_neg e1]; simp; omega
/-- A row's numbers, cut. -/
theorem ints_cut {w : World} {B : Nat} {A : Option Addr} {l : List Int} {n d m : Nat} (h : Row w B A (ints l)) (hn : n = l.length) (hm : m = (l.take 45).length) (hd : n ≤ d) : IsInts w B (.slice A m d) (l.take 45) := by
  subst hm
  refine ⟨A, d, rfl, ?_, by rw [List.length_take]; omega⟩
  have := h.take 45
  rwa [show (ints l).take 45 = ints (l.take 45) by simp [ints, List.map_take]] at this
/-- What few has made so far. -/
def FewIn (w : World) (l : List Tb.PR) (k : Nat) (vs : List Value) : Prop :=
  vs.length = k * 3 ∧ ∀ j x, j < k → l[j]? = some x → ∃ a0 a1 a2, vs[j * 3]? = some a0 ∧ vs[j * 3 + 1]? = some a1 ∧ vs[j * 3 + 2]? = some a2 ∧ IsInts w w.heap.size a0 (x.m.take 45) ∧ IsInts w w.heap.size a1 (x.r.take 45) ∧ IsInts w w.heap.size a2 (x.p.take 45)
theorem FewIn.next {w : World} {l : List Tb.PR} {k : Nat} {vs : List Value} (h : FewIn w l k vs) {x : Tb.PR} (hx : l[k]? = some x) {a0 a1 a2 : Value} (i0 : IsInts w w.heap.size a0 (x.m.take 45)) (i1 : IsInts w w.heap.size a1 (x.r.take 45)) (i2 : IsInts w w.heap.size a2 (x.p.take 45)) : FewIn w l (k + 1) (vs ++ [a0, a1, a2]) := by
  obtain ⟨h1, h2⟩ := h
  refine ⟨by simp; omega, fun j y hj hy => ?_⟩
  by_cases e : j = k
  · subst e
    rw [hx] at hy
    injection hy with hy
    subst hy
    refine ⟨a0, a1, a2, ?_, ?_, ?_, i0, i1, i2⟩
    · rw [List.getElem?_append_right (by omega), show j * 3 - vs.length = 0 by omega]; rfl
    · rw [List.getElem?_append_right (by omega), show j * 3 + 1 - vs.length = 1 by omega]; rfl
    · rw [List.getElem?_append_right (by omega), show j * 3 + 2 - vs.length = 2 by omega]; rfl
  · obtain ⟨b0, b1, b2, e0, e1, e2, r⟩ := h2 j y (by omega) hy
    exact ⟨b0, b1, b2, by rw [List.getElem?_append_left (by omega)]; exact e0, by rw [List.getElem?_append_left (by omega)]; exact e1, by rw [List.getElem?_append_left (by omega)]; exact e2, r⟩
theorem FewIn.rows {w W : World} {l : List Tb.PR} {N : Nat} {vs : List Value} {A : Option Addr} {c : Nat} (h : FewIn w l N vs) (hN : N = min l.length 15) (hb : Below w.heap.size w W) (hr : Row W W.heap.size A vs) (hc : N ≤ c) : IsTab W W.heap.size (.slice A N c) (fewT l) := by
  obtain ⟨h1, h2⟩ := h
  have hlen : (fewT l).length = N := by simp [fewT]; omega
  refine ⟨A, c, by rw [hlen], ⟨vs, by rw [hlen]; exact h1, hr, fun k x hx => ?_⟩, by rw [hlen]; exact hc⟩
  have hk : k < N := by rw [← hlen]; exact (List.getElem?_eq_some_iff.1 hx).1
  have hkl : k < l.length := by omega
  unfold fewT at hx
  rw [List.getElem?_map, List.getElem?_take, if_pos (by omega), List.getElem?_eq_getElem hkl] at hx
  injection hx with hx
  obtain ⟨a0, a1, a2, e0, e1, e2, i0, i1, i2⟩ := h2 k _ hk (List.getElem?_eq_getElem hkl)
  refine ⟨a0, a1, a2, e0, e1, e2, ?_, ?_, ?_⟩
  · rw [← hx]; exact (i0.below hb).more hb.size
  · rw [← hx]; exact (i1.below hb).more hb.size
  · rw [← hx]; exact (i2.below hb).more hb.size
theorem blk_grow1 {W W' : World} {o : Obj} {g : Nat} {t : TypeId} {cs : Array Value} {row : Option Nat} (hb : Blk W g t cs) (hne : some g ≠ row) (hgr : ((W.alloc o).drew).grownBy W' row) : Blk W' g t cs :=
  (hgr.block g (hb.alloc o).lt hne).trans (hb.alloc o)
/-- A cut table is answered. -/
def Cut (w : World) (l : List Tb.PR) (e : Ending) (w' : World) : Prop := ∃ v, e = .returned (.agg #[v]) ∧ IsTab w' w'.heap.size v (fewT l) ∧ Below w.heap.size w w'
end Go.Proofs.YtjobifclmcdjcaaGreatDoor
