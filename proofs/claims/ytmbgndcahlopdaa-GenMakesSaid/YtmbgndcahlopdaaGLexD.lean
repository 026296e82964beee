/- The walk of first. -/
import Derived.Laws.EntriesVeiled
import Derived.Test.YtmbgndcahlopdaaGLexA
namespace Go.Proofs.Ytmbgndcahlopdaa
set_option maxRecDepth 100000
open Go.RowKit Go.Shelf

theorem below_drawn {B : Nat} {a w : World} (h : Below B a w) (n : Nat) : Below B a (w.drewN n) := h.trans ⟨rfl, rfl, rfl, Nat.le_refl _, fun _ _ => rfl⟩
theorem addr_next (a : Addr) (m j : Nat) (hj : 0 < j) : a.add (m + j) = ⟨(a.add m).block, (a.add m).off + j, none⟩ := by
  unfold Addr.add
  rw [if_neg (by omega)]
  by_cases hm : m = 0
  · subst hm; simp
  · simp [hm, Nat.add_assoc]

end Go.Proofs.Ytmbgndcahlopdaa

/- Rows of tokens. -/
namespace Go.Proofs.Ytmbgndcahlopdaa
set_option maxRecDepth 100000
open Go.RowKit Go.Shelf

/-- Rows of cells that the call owns. -/
theorem ownT_row {W : World} {base sz k cn : Nat} {e : TypeId} {An : Option Addr} {xs : List Value} (h : W.ownsRow base e sz (.slice An k cn) k xs) : Row W W.heap.size An xs ∧ k ≤ cn := by
  have hown := h
  obtain ⟨h1, h2⟩ := h
  rcases h2 with ⟨he, hk0⟩ | ⟨g, cap, cur, he, hb, hh, hkc, hcm, hcs, ht⟩
  · injection he with e1 e2 e3
    subst hk0
    have : xs = [] := List.eq_nil_of_length_eq_zero (by simpa using h1)
    subst this
    exact ⟨Row.nil, by omega⟩
  · injection he with e1 e2 e3
    subst e1 e3
    have hg := (Array.getElem?_eq_some_iff.1 hh).1
    exact ⟨fun _ => ⟨_, rfl, hg, fun j u hu => hown.cells rfl j u hu⟩, hkc⟩
theorem ownT_slice {W : World} {base sz k : Nat} {e : TypeId} {v : Value} {xs : List Value} (h : W.ownsRow base e sz v k xs) : ∃ A c, v = .slice A k c := by
  rcases h.2 with ⟨he, hk0⟩ | ⟨g, cap, cur, he, _⟩
  · exact ⟨none, 0, by rw [he, hk0]⟩
  · exact ⟨_, _, he⟩
theorem ownT_below {W w' : World} {base sz k : Nat} {e : TypeId} {v : Value} {xs : List Value} (h : W.ownsRow base e sz v k xs) (hb : Below W.heap.size W w') : w'.ownsRow base e sz v k xs :=
  ⟨h.1, h.2.imp id fun ⟨g, cap, cur, he, hb', hh, r⟩ => ⟨g, cap, cur, he, hb', (hb.block g (Array.getElem?_eq_some_iff.1 hh).1).trans hh, r⟩⟩
theorem ownT_mono {W : World} {base base' sz k : Nat} {e : TypeId} {v : Value} {xs : List Value} (h : W.ownsRow base e sz v k xs) (hb : base' ≤ base) : W.ownsRow base' e sz v k xs :=
  ⟨h.1, h.2.imp id fun ⟨g, cap, cur, he, hb', r⟩ => ⟨g, cap, cur, he, Nat.le_trans hb hb', r⟩⟩
theorem cells_new (w : World) (xs : List Value) (t : TypeId) : ∀ j u, xs[j]? = some u → (w.alloc (.cells xs.toArray t)).cell? ((⟨w.heap.size, 0, none⟩ : Addr).add j) = some u := by
  intro j u hu
  have hb := Blk.new w t xs.toArray
  have e : (⟨w.heap.size, 0, none⟩ : Addr).add j = ⟨w.heap.size, j, none⟩ := by unfold Addr.add; split <;> simp_all
  rw [e, hb.cell]
  simpa using hu
end Go.Proofs.Ytmbgndcahlopdaa

/- The walk of tokens. -/
namespace Go.Proofs.Ytmbgndcahlopdaa
set_option maxRecDepth 100000
open Go.RowKit Go.Shelf

end Go.Proofs.Ytmbgndcahlopdaa

/- The walk of Lex. -/
namespace Go.Proofs.Ytmbgndcahlopdaa
set_option maxRecDepth 100000
open Go.RowKit Go.Shelf

end Go.Proofs.Ytmbgndcahlopdaa

/- The walk of Join. -/
namespace Go.Proofs.Ytmbgndcahlopdaa
set_option maxRecDepth 100000
open Go.RowKit Go.Shelf

end Go.Proofs.Ytmbgndcahlopdaa
