/- The reference's inside. -/
import Derived.Deep.Cut
import Derived.Test.YtipbilmnknmhmaaDoorGRefB
namespace Go.Proofs.YtipbilmnknmhmaaDoor
set_option maxRecDepth 100000
open Go.RowKit Go.Shelf

section
variable {w W : World} {v1 v2 : Value} {p d e : Int}
end
theorem Row.kept_at {w w' : World} {B B' : Nat} {A : Option Addr} {xs : List Value} (h : Row w B A xs) (hB : B ≤ B') (hk : ∀ ad, A = some ad → w'.heap[ad.block]? = w.heap[ad.block]?) : Row w' B' A xs := fun hn => by
  obtain ⟨ad, e, hb, hc⟩ := h hn
  exact ⟨ad, e, Nat.lt_of_lt_of_le hb hB, fun j u hu => (World.cell?_of_block (w := w) (by rw [add_block]; exact hk ad e)).trans (hc j u hu)⟩
theorem ROut.inside {w w' : World} {S : Nat → Prop} {A2 : Option Addr} {c2 : Nat} {x : List Int} (h : ROut w S w' A2 c2 x) : ∀ ad, A2 = some ad → ad.block < w'.heap.size := fun ad e => by
  by_cases hx : x = []
  · rw [(h.nil hx).1] at e
    cases e
  · obtain ⟨ad', e', hb, _⟩ := h.row (by intro e0; have h1 := ints_length x; rw [e0] at h1; exact hx (List.eq_nil_of_length_eq_zero h1.symm))
    rw [e] at e'
    injection e' with e'
    subst e'
    exact hb
section
variable {A A2 : Option Addr} {c c2 : Nat} {l : List Lx.Tk} {S : Nat → Prop}
end
end Go.Proofs.YtipbilmnknmhmaaDoor
