/- What the laws of layer 2 share: alive; facts that calls keep. -/
import Derived.Deep.RegionHeld3
import Derived.Lib.QuietBelow
import Derived.Test.YtlddglhjpiahfaaGOrdH
import Derived.Test.YtlddglhjpiahfaaGFree
namespace Go.Proofs.Ytlddglhjpiahfaa
set_option maxRecDepth 100000
open Go.RowKit Go.Shelf Go.Sort

theorem lat_two {W : World} {B : Nat} {v : Value} {names : List ByteArray} {up : List Nat} (h : IsLat W B v names up) : ∃ A n c A' n' c', v = .agg #[.slice A n c, .slice A' n' c'] := by
  obtain ⟨A, A', c, c', rfl, _⟩ := h.form
  exact ⟨_, _, _, _, _, _, rfl⟩

theorem Keeps.trans_ {B0 b : Nat} {W W2 W3 : World} (h : Keeps B0 b W W2) (k : Keeps B0 b W2 W3) : Keeps B0 b W W3 :=
  ⟨Nat.le_trans h.1 k.1, fun p hp ho => (k.2 p (Nat.lt_of_lt_of_le hp h.1) ho).trans (h.2 p hp ho)⟩
theorem Keeps.below {B0 b : Nat} {W W2 : World} (h : Below W.heap.size W W2) : Keeps B0 b W W2 := ⟨h.size, fun _ hp _ => h.cell hp⟩
theorem Keeps.set_ {B0 b : Nat} {W : World} {p : Addr} {u : Value} (h1 : B0 ≤ p.block) (h2 : p.block < b) : Keeps B0 b W (W.setCell p u) :=
  ⟨by simp [World.setCell], fun _ _ ho => World.cell?_setCell_other _ _ _ _ (fun e => by subst e; omega)⟩
theorem Keeps.mono_ {B0 b b' : Nat} {W W2 : World} (h : Keeps B0 b W W2) (hb : b ≤ b') : Keeps B0 b' W W2 := ⟨h.1, fun p hp ho => h.2 p hp (by omega)⟩
section
variable {w : World} {x0 x1 y0 y1 : Value} {done : Nat → Bool} {r : Nat → Value} {W : World}
theorem upd_ne {k j : Nat} (h : j ≠ k) : Free.upd done k j = done j := by unfold Free.upd; rw [if_neg h]
end

end Go.Proofs.Ytlddglhjpiahfaa
