/- What the laws hold of the world after few: the box, and the lattice in it. -/
import Derived.Test.YtgplnlpbpcpacaaFew
import Derived.Test.YtgplnlpbpcpacaaAlive
import Derived.Test.YtgplnlpbpcpacaaEnds
namespace Go.Proofs.Ytgplnlpbpcpacaa
open Go.RowKit

def Law (w : World) (x0 x1 : Value) (names : List ByteArray) (up : List Nat) (W : World) : Prop :=
  At w x0 x1 W ∧ IsLat W W.heap.size (.agg #[x0, x1]) names up
def LawR (w : World) (x0 x1 : Value) (names : List ByteArray) (up : List Nat) (W : World) : Prop :=
  Law w x0 x1 names up W ∧ W.cell? ⟨w.heap.size, 0, none⟩ = some x0 ∧ W.cell? ⟨w.heap.size, 1, none⟩ = some x1
section
variable {w : World} {x0 x1 : Value} {names : List ByteArray} {up : List Nat} {W W' : World}
theorem Law.r (h : Law w x0 x1 names up W) : LawR w x0 x1 names up W := ⟨h, h.1.c0, h.1.c1⟩
theorem Law.next (h : Law w x0 x1 names up W) (hb : Below W.heap.size W W') : LawR w x0 x1 names up W' := Law.r ⟨h.1.next hb, (h.2.below hb).more hb.size⟩
/-- A contract that ends in Below, met where the law holds. -/
theorem Law.call {f : FuncId} {args : Array Value} {r : Value} (h : Law w x0 x1 names up W) (hc : Calls Try.prog f args W fun e w' => e = .returned r ∧ Below W.heap.size W w') :
    Calls Try.prog f args W fun e w' => e = .returned r ∧ Law w x0 x1 names up w' ∧ w'.cell? ⟨w.heap.size, 0, none⟩ = some x0 ∧ w'.cell? ⟨w.heap.size, 1, none⟩ = some x1 :=
  hc.mono fun _ _ ⟨he, hb⟩ => ⟨he, (h.next hb).1, (h.next hb).2.1, (h.next hb).2.2⟩
theorem lat_agg {v : Value} {B : Nat} (h : IsLat W B v names up) : ∃ x0 x1, v = .agg #[x0, x1] ∧ (∃ A n c, x0 = .slice A n c) ∧ (∃ A n c, x1 = .slice A n c) := by
  obtain ⟨A, A', c, c', rfl, _⟩ := h.form
  exact ⟨_, _, rfl, ⟨_, _, _, rfl⟩, ⟨_, _, _, rfl⟩⟩
end
/-- The law's box takes few's answer. -/
theorem law_start {w w1 : World} {y0 y1 x0 x1 : Value} {names : List ByteArray} {up : List Nat} (hlat : ∀ W2, Keeps w.heap.size (w.heap.size + 1) w1 W2 → IsLat W2 W2.heap.size (.agg #[x0, x1]) names up)
    (hb1 : Below (w.heap.size + 1) (w.alloc (.cells #[y0, y1] 25)) w1) : Law w x0 x1 names up ((w1.setCell ⟨w.heap.size, 0, none⟩ x0).setCell ⟨w.heap.size, 1, none⟩ x1) := by
  have hsz : (w.alloc (.cells #[y0, y1] 25)).heap.size = w.heap.size + 1 := by simp
  have h0 : Blk w1 w.heap.size 25 #[y0, y1] := (Blk.new w _ _).below hb1 (Nat.lt_succ_self _)
  have hB : Below w.heap.size w w1 := ((Below.refl _ w).alloc (Nat.le_refl _) _).trans (hb1.mono (by omega))
  refine ⟨⟨(h0.set_ 0 x0).set_ 1 x1, (hB.setCell (p := ⟨w.heap.size, 0, none⟩) (Nat.le_refl _) _).setCell (p := ⟨w.heap.size, 1, none⟩) (Nat.le_refl _) _⟩, hlat _ ⟨by simp [World.setCell], fun p _ hp => ?_⟩⟩
  have hne : ∀ i, (⟨w.heap.size, i, none⟩ : Addr) ≠ p := fun i e => by
    rw [← e] at hp
    have : (⟨w.heap.size, i, none⟩ : Addr).block = w.heap.size := rfl
    omega
  rw [World.cell?_setCell_other _ _ _ _ (hne 1), World.cell?_setCell_other _ _ _ _ (hne 0)]
end Go.Proofs.Ytgplnlpbpcpacaa
