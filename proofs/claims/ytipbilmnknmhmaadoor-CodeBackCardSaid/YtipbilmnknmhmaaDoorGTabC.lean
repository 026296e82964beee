/- Walks of checkRow and Check. -/
import Derived.StillTailTactics
import Derived.Test.YtipbilmnknmhmaaDoorGTabA
import Derived.Test.YtipbilmnknmhmaaDoorGRulD
namespace Go.Proofs.YtipbilmnknmhmaaDoor
set_option maxRecDepth 100000
open Go.RowKit Go.Shelf
attribute [local go_sem] Oper.semAt_some

end Go.Proofs.YtipbilmnknmhmaaDoor

/- The walk of Check; tables in memory. -/
namespace Go.Proofs.YtipbilmnknmhmaaDoor
set_option maxRecDepth 100000
open Go.RowKit Go.Shelf
attribute [local go_sem] Oper.semAt_some

/-- A table's rows at A, below B. -/
def RowsIn (w : World) (B : Nat) (A : Option Addr) (l : List Tb.PR) : Prop :=
  ∃ vs : List Value, vs.length = l.length * 3 ∧ Row w B A vs ∧ ∀ k x, l[k]? = some x → ∃ a0 a1 a2, vs[k * 3]? = some a0 ∧ vs[k * 3 + 1]? = some a1 ∧ vs[k * 3 + 2]? = some a2 ∧ IsInts w B a0 x.m ∧ IsInts w B a1 x.r ∧ IsInts w B a2 x.p
theorem RowsIn.below {w w' : World} {B : Nat} {A : Option Addr} {l : List Tb.PR} (h : RowsIn w B A l) (hb : Below B w w') : RowsIn w' B A l := by
  obtain ⟨vs, h1, h2, h3⟩ := h
  refine ⟨vs, h1, h2.below hb, fun k x hk => ?_⟩
  obtain ⟨a0, a1, a2, e0, e1, e2, i0, i1, i2⟩ := h3 k x hk
  exact ⟨a0, a1, a2, e0, e1, e2, i0.below hb, i1.below hb, i2.below hb⟩
theorem RowsIn.more {w : World} {B B' : Nat} {A : Option Addr} {l : List Tb.PR} (h : RowsIn w B A l) (hB : B ≤ B') : RowsIn w B' A l := by
  obtain ⟨vs, h1, h2, h3⟩ := h
  refine ⟨vs, h1, h2.more hB, fun k x hk => ?_⟩
  obtain ⟨a0, a1, a2, e0, e1, e2, i0, i1, i2⟩ := h3 k x hk
  exact ⟨a0, a1, a2, e0, e1, e2, i0.more hB, i1.more hB, i2.more hB⟩
theorem RowsIn.nil (w : World) (B : Nat) (A : Option Addr) : RowsIn w B A [] := ⟨[], rfl, Row.nil, fun k x hk => by simp at hk⟩
theorem RowsIn.at_ {w : World} {B k : Nat} {A : Option Addr} {l : List Tb.PR} (h : RowsIn w B A l) (hk : k < l.length) : ∃ ad a0 a1 a2, A = some ad ∧ ad.block < B ∧ w.cell? (ad.add (k * 3)) = some a0 ∧
    w.cell? ⟨(ad.add (k * 3)).block, (ad.add (k * 3)).off + 1, none⟩ = some a1 ∧ w.cell? ⟨(ad.add (k * 3)).block, (ad.add (k * 3)).off + 2, none⟩ = some a2 ∧ IsInts w B a0 l[k].m ∧ IsInts w B a1 l[k].r ∧ IsInts w B a2 l[k].p := by
  obtain ⟨vs, h1, h2, h3⟩ := h
  obtain ⟨a0, a1, a2, e0, e1, e2, i0, i1, i2⟩ := h3 k _ (List.getElem?_eq_getElem hk)
  obtain ⟨ad, e, hb, hc⟩ := h2 (by rintro rfl; simp at h1; omega)
  exact ⟨ad, a0, a1, a2, e, hb, hc _ _ e0, by rw [← addr_next _ _ _ (by decide)]; exact hc _ _ e1, by rw [← addr_next _ _ _ (by decide)]; exact hc _ _ e2, i0, i1, i2⟩
/-- A table that is handed over. -/
def IsTab (w : World) (B : Nat) (v : Value) (l : List Tb.PR) : Prop := ∃ A c, v = .slice A l.length c ∧ RowsIn w B A l ∧ l.length ≤ c
theorem IsTab.below {w w' : World} {B : Nat} {v : Value} {l : List Tb.PR} (h : IsTab w B v l) (hb : Below B w w') : IsTab w' B v l := by
  obtain ⟨A, c, e, hr, hc⟩ := h
  exact ⟨A, c, e, hr.below hb, hc⟩
theorem IsTab.more {w : World} {B B' : Nat} {v : Value} {l : List Tb.PR} (h : IsTab w B v l) (hB : B ≤ B') : IsTab w B' v l := by
  obtain ⟨A, c, e, hr, hc⟩ := h
  exact ⟨A, c, e, hr.more hB, hc⟩
theorem IsTab.nil (w : World) (B : Nat) : IsTab w B (.slice none 0 0) [] := ⟨none, 0, rfl, RowsIn.nil _ _ _, Nat.le_refl _⟩

end Go.Proofs.YtipbilmnknmhmaaDoor

/- The walks of the reference's Word, Arity, has, Row (by gen_tabw.py). -/
namespace Go.Proofs.YtipbilmnknmhmaaDoor
set_option maxRecDepth 100000
open Go.RowKit Go.Shelf
attribute [local go_sem] Oper.semAt_some

end Go.Proofs.YtipbilmnknmhmaaDoor
