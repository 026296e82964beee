/- The words in memory; things of a pile in memory. -/
import Derived.Deep.RegionWith
import Derived.StillTailTactics
import Derived.Test.YtggcmkpafpjnoaaGLexP
import Derived.Test.YtggcmkpafpjnoaaGRulB
namespace Go.Proofs.Ytggcmkpafpjnoaa
set_option maxRecDepth 100000
open Go.RowKit Go.Shelf

/-- A region that draws, whose tail is forced: its world named by the draw. -/
theorem still_tail_drew {P : Program} {id : Nat} {Q : Exit → Act → World → Prop} {a : Act} {w : World} {l : List Oper} (n : Nat) (hm : P.follows .mixedOrders = true) (hB : Region.lexTailB .any l.toArray n = true)
    (h : wpStill P l.toArray w.drew (fun a' => wpList P l.toArray Q (l.drop n) a' w.drew) (l.take n) a) : (Code.region id l.toArray true).wp P Q a w := wp_region_still_tail n hm hB h
def thcells (l : List Sh.Th) : List Value := l.flatMap fun t => [.string t.s, .int .i64 t.b, .int .i64 t.d]
theorem thcells_length (l : List Sh.Th) : (thcells l).length = l.length * 3 := by
  induction l with
  | nil => rfl
  | cons e r ih => simp only [thcells, List.flatMap_cons, List.length_append, List.length_cons, List.length_nil] at ih ⊢; omega
theorem thcells_snoc (l : List Sh.Th) (t : Sh.Th) : thcells (l ++ [t]) = thcells l ++ [.string t.s, .int .i64 t.b, .int .i64 t.d] := by simp [thcells]
theorem thcells_take (l r : List Sh.Th) : (thcells (l ++ r)).take (l.length * 3) = thcells l := by
  have e : thcells (l ++ r) = thcells l ++ thcells r := by simp [thcells]
  rw [e, ← thcells_length l, List.take_left]
theorem thcells_at (l r : List Sh.Th) (t : Sh.Th) (j : Nat) (v : Value) (h : [Value.string t.s, .int .i64 t.b, .int .i64 t.d][j]? = some v) : (thcells (l ++ [t] ++ r))[l.length * 3 + j]? = some v := by
  have e : thcells (l ++ [t] ++ r) = thcells l ++ ([Value.string t.s, .int .i64 t.b, .int .i64 t.d] ++ thcells r) := by simp [thcells]
  have hj := (List.getElem?_eq_some_iff.1 h).1
  rw [e, List.getElem?_append_right (by rw [thcells_length]; omega), thcells_length, Nat.add_sub_cancel_left, List.getElem?_append_left hj]
  exact h
/-- A row of the call's own, of three cells each, cut short. -/
theorem own_take3 {W : World} {base n k cap g : Nat} {e : TypeId} {xs : List Value} (h : W.ownsRow base e 3 (.slice (some ⟨g, 0, none⟩) n cap) n xs) (hk : k ≤ n) : W.ownsRow base e 3 (.slice (some ⟨g, 0, none⟩) k cap) k (xs.take (k * 3)) := by
  obtain ⟨h1, h2⟩ := h
  rcases h2 with ⟨he, _⟩ | ⟨g', cap', cur, he, hb, hh, hkc, hcm, hcs, ht⟩
  · cases he
  · injection he with e1 e2 e3
    injection e1 with e1
    injection e1 with e1
    subst e1 e3
    refine ⟨by rw [List.length_take, h1]; omega, .inr ⟨_, _, cur, rfl, hb, hh, by omega, hcm, hcs, ?_⟩⟩
    rw [← ht, List.take_take]
    congr 1
    omega
theorem own_cell3 {W : World} {base n cap g : Nat} {e : TypeId} {xs : List Value} (h : W.ownsRow base e 3 (.slice (some ⟨g, 0, none⟩) n cap) n xs) {j : Nat} {u : Value} (hj : xs[j]? = some u) : W.cell? ⟨g, j, none⟩ = some u := by
  have h1 := h.cells rfl j u hj
  have e : (⟨g, 0, none⟩ : Addr).add j = ⟨g, j, none⟩ := by unfold Addr.add; split <;> simp_all
  rwa [e] at h1
def thv (t : Sh.Th) : Value := .agg #[.string t.s, .int .i64 t.b, .int .i64 t.d]
/-- A thing is answered, and old memory stays. -/
def Gives (w : World) (t : Sh.Th) (e : Ending) (w' : World) : Prop := e = .returned (.agg #[.string t.s, .int .i64 t.b, .int .i64 t.d]) ∧ Below w.heap.size w w'

end Go.Proofs.Ytggcmkpafpjnoaa
