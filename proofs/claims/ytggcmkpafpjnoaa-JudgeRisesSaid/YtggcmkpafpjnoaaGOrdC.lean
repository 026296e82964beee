/- Walks of slices.Equal, slices.Index, and of Like and Same. -/
import Derived.RegionTactic
import Derived.Deep.QuietTactic
import Derived.BigQuiet
import Derived.Lib.SlicesS
import Derived.Test.YtggcmkpafpjnoaaGOrdB
namespace Go.Proofs.Ytggcmkpafpjnoaa
set_option maxRecDepth 100000
open Go.RowKit Go.Shelf

theorem streq_eq (s t : ByteArray) : (s.toList == t.toList) = decide (s = t) := by
  rw [Bool.eq_iff_iff, decide_eq_true_eq]
  exact Lib.bytes_beq_iff s t

theorem eq_of_get {α : Type} {a b : List α} (hl : a.length = b.length) (h : ∀ j, j < a.length → a[j]? = b[j]?) : a = b := by
  refine List.ext_getElem? fun j => ?_
  by_cases hj : j < a.length
  · exact h j hj
  · rw [List.getElem?_eq_none (by omega), List.getElem?_eq_none (by omega)]

/-- Two lattices that hold the same. -/
def sameLat (n1 : List ByteArray) (u1 : List Nat) (n2 : List ByteArray) (u2 : List Nat) : Bool := decide (n1 = n2) && decide (u1 = u2)

end Go.Proofs.Ytggcmkpafpjnoaa

/- Walks of slices.Index, Find, between, Edges. -/
namespace Go.Proofs.Ytggcmkpafpjnoaa
set_option maxRecDepth 100000
open Go.RowKit Go.Shelf

/-- The place of a name. -/
def idxN (l : List ByteArray) (s : ByteArray) : Option Nat := l.findIdx? fun x => decide (x = s)
theorem idxN_some {l : List ByteArray} {s : ByteArray} {k : Nat} (h : l[k]? = some s) (hn : ∀ j t, j < k → l[j]? = some t → t ≠ s) : idxN l s = some k := by
  unfold idxN
  obtain ⟨hk, hs⟩ := List.getElem?_eq_some_iff.1 h
  rw [List.findIdx?_eq_some_iff_getElem]
  refine ⟨hk, by simpa using hs, fun j hj => ?_⟩
  have := hn j l[j] hj (List.getElem?_eq_getElem (by omega))
  simpa using this
theorem idxN_none {l : List ByteArray} {s : ByteArray} (hn : ∀ j t, j < l.length → l[j]? = some t → t ≠ s) : idxN l s = none := by
  unfold idxN
  rw [List.findIdx?_eq_none_iff]
  intro x hx
  obtain ⟨j, hj, rfl⟩ := List.getElem_of_mem hx
  simpa using hn j l[j] hj (List.getElem?_eq_getElem hj)
def idxI (l : List ByteArray) (s : ByteArray) : Int := match idxN l s with | some k => (k : Int) | none => -1
theorem idxI_some {l : List ByteArray} {s : ByteArray} {k : Nat} (h : idxN l s = some k) : idxI l s = k := by unfold idxI; rw [h]
theorem idxI_none {l : List ByteArray} {s : ByteArray} (h : idxN l s = none) : idxI l s = -1 := by unfold idxI; rw [h]

def findN (names : List ByteArray) (up : List Nat) (s : ByteArray) : Nat := if checkN names up = 0 then if (idxN names s).isSome then 0 else 9 else checkN names up
def findV (names : List ByteArray) (up : List Nat) (s : ByteArray) : Nat := if checkN names up = 0 then (idxN names s).getD 0 else 0

end Go.Proofs.Ytggcmkpafpjnoaa

/- Walks of between and Edges. -/
namespace Go.Proofs.Ytggcmkpafpjnoaa
set_option maxRecDepth 100000
open Go.RowKit Go.Shelf

namespace Ordr
def bt (up : List Nat) (a b c : Nat) : Bool := decide (c ≠ a) && decide (c ≠ b) && Lat.fl up a c && Lat.fl up c b
def betw (up : List Nat) (a b : Nat) : Bool := (List.range up.length).any (bt up a b)
def isEdge (up : List Nat) (p : Nat × Nat) : Bool := decide (p.1 ≠ p.2) && Lat.fl up p.1 p.2 && !betw up p.1 p.2
def toI (p : Nat × Nat) : Int × Int := (p.1, p.2)
def edgesTo (up : List Nat) (k : Nat) : List (Int × Int) := ((Lat.upto up.length k).filter (isEdge up)).map toI
def edges (up : List Nat) : List (Int × Int) := ((Lat.pairs up.length).filter (isEdge up)).map toI
theorem edgesTo_all (up : List Nat) : edgesTo up (up.length * up.length) = edges up := rfl
theorem edgesTo_zero (up : List Nat) : edgesTo up 0 = [] := rfl
theorem edgesTo_yes {up : List Nat} {a b : Nat} (hb : b < up.length) (h : isEdge up (a, b) = true) : edgesTo up (a * up.length + b + 1) = edgesTo up (a * up.length + b) ++ [((a : Int), (b : Int))] := by
  unfold edgesTo
  rw [Lat.upto_succ hb, List.filter_append, List.map_append]
  simp [h, toI]
theorem edgesTo_no {up : List Nat} {a b : Nat} (hb : b < up.length) (h : isEdge up (a, b) = false) : edgesTo up (a * up.length + b + 1) = edgesTo up (a * up.length + b) := by
  unfold edgesTo
  rw [Lat.upto_succ hb, List.filter_append]
  simp [h]
theorem edgesTo_le {up : List Nat} {k : Nat} (h : up.length ≤ 31) (hk : k ≤ up.length * up.length) : (edgesTo up k).length ≤ 1000 := by
  unfold edgesTo
  rw [List.length_map]
  have h1 := List.length_filter_le (isEdge up) (Lat.upto up.length k)
  have h2 : (Lat.upto up.length k).length = k := by simp [Lat.upto]
  have h3 : up.length * up.length ≤ 31 * 31 := Nat.mul_le_mul h h
  omega
theorem betw_true {up : List Nat} {a b c : Nat} (hc : c < up.length) (h : bt up a b c = true) : betw up a b = true := by
  unfold betw
  rw [List.any_eq_true]
  exact ⟨c, by simpa using hc, h⟩
theorem betw_false {up : List Nat} {a b : Nat} (h : ∀ c, c < up.length → bt up a b c = false) : betw up a b = false := by
  unfold betw
  rw [List.any_eq_false]
  intro c hc
  rw [h c (by simpa using hc)]
  decide
theorem idx_lt {n a b : Nat} (ha : a < n) (hb : b < n) : a * n + b + 1 ≤ n * n := by
  have : (a + 1) * n ≤ n * n := Nat.mul_le_mul_right n ha
  rw [Nat.add_mul] at this
  omega
end Ordr

/-- Rows of cells that the call owns, edges among them. -/
theorem own_rowN {W : World} {base sz k cn : Nat} {e : TypeId} {An : Option Addr} {xs : List Value} (h : W.ownsRow base e sz (.slice An k cn) k xs) : Row W W.heap.size An xs ∧ k ≤ cn := by
  have hown := h
  obtain ⟨h1, h2⟩ := h
  rcases h2 with ⟨he, hk0⟩ | ⟨g, cap, cur, he, hb, hh, hkc, hcm, hcs, ht⟩
  · injection he with e1 e2 e3
    subst hk0
    have : xs = [] := List.eq_nil_of_length_eq_zero (by simpa using h1)
    subst this
    exact ⟨Row.nil, by omega⟩
  · injection he with e1 e2 e3
    subst e1 e3
    have hg := (Array.getElem?_eq_some_iff.1 hh).1
    exact ⟨fun _ => ⟨_, rfl, hg, fun j u hu => hown.cells rfl j u hu⟩, hkc⟩
theorem own_slice {W : World} {base sz k : Nat} {e : TypeId} {v : Value} {xs : List Value} (h : W.ownsRow base e sz v k xs) : ∃ A c, v = .slice A k c := by
  rcases h.2 with ⟨he, hk0⟩ | ⟨g, cap, cur, he, _⟩
  · exact ⟨none, 0, by rw [he, hk0]⟩
  · exact ⟨_, _, he⟩

/-- A slice of edges. -/
def IsEdges (w : World) (B : Nat) (v : Value) (es : List (Int × Int)) : Prop := ∃ A c, v = .slice A es.length c ∧ Row w B A (ecells es) ∧ es.length ≤ c ∧ es.length ≤ 1000
theorem IsEdges.below {w w' : World} {B : Nat} {v : Value} {es : List (Int × Int)} (h : IsEdges w B v es) (hb : Below B w w') : IsEdges w' B v es := by
  obtain ⟨A, c, e, hr, hc, hl⟩ := h
  exact ⟨A, c, e, hr.below hb, hc, hl⟩
theorem IsEdges.more {w : World} {B B' : Nat} {v : Value} {es : List (Int × Int)} (h : IsEdges w B v es) (hB : B ≤ B') : IsEdges w B' v es := by
  obtain ⟨A, c, e, hr, hc, hl⟩ := h
  exact ⟨A, c, e, hr.more hB, hc, hl⟩
theorem IsEdges.nil (w : World) (B : Nat) : IsEdges w B (.slice none 0 0) [] := ⟨none, 0, rfl, Row.nil, Nat.le_refl _, by simp⟩

/-- Edges, and an error. -/
def EdgesRes (w : World) (n : Nat) (es : List (Int × Int)) (e : Ending) (w' : World) : Prop :=
  ∃ v, e = .returned (.tuple #[v, .int .i64 (n : Int)]) ∧ IsEdges w' w'.heap.size v es ∧ Below w.heap.size w w'
def edgesR (names : List ByteArray) (up : List Nat) : List (Int × Int) := if checkN names up = 0 then Ordr.edges up else []

theorem cell_two_new (w : World) (x y : Value) (t : TypeId) : ∀ j u, [x, y][j]? = some u → (w.alloc (.cells #[x, y] t)).cell? ((⟨w.heap.size, 0, none⟩ : Addr).add j) = some u := by
  intro j u hu
  have hb := Blk.new w t #[x, y]
  have e : (⟨w.heap.size, 0, none⟩ : Addr).add j = ⟨w.heap.size, j, none⟩ := by unfold Addr.add; split <;> simp_all
  rw [e, hb.cell]
  simpa using hu

end Go.Proofs.Ytggcmkpafpjnoaa
